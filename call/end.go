package call

import (
	"slices"

	"vouch/api"
	"vouch/gas"
)

// end takes the topmost frame, which has ended, away, and answers whoever asked for it.
func (r *Run) end() {
	f, first := *r.topmost(), r.frames[0].mark
	r.frames = slices.Delete(r.frames, len(r.frames)-1, len(r.frames))
	how, _ := f.ended()
	if how.Kind == api.EndFault {
		r.world.Back(first)
		r.finish(api.Faulted, how.Why, api.Reply{})
		return
	}
	r.answer(r.settled(f, how), how.Why)
}

// settled lets what a frame has done stay, or takes it back; it is the answer to whoever asked for the frame.
func (r *Run) settled(f frame, how api.Ending) api.Reply {
	switch how.Kind {
	case api.EndRevert:
		r.world.Back(f.mark)
		return api.Reply{Status: api.TookBack, Output: how.Output, Left: how.Left}
	case api.EndHalt:
		r.world.Back(f.mark)
		return api.Reply{Status: api.Failed}
	case api.EndDeploy:
		r.world.Forget(f.mark)
		laid, _ := f.code.Lay(how.Sub, how.Behind)
		r.world.Lay(f.given.Self, laid)
		return api.Reply{Status: api.Went, Left: how.Left, Address: f.given.Self}
	}
	r.world.Forget(f.mark)
	return api.Reply{Status: api.Went, Output: how.Output, Left: how.Left}
}

// answer answers the topmost frame; where none stands, the message.
func (r *Run) answer(x api.Reply, why int) {
	if len(r.frames) == 0 {
		r.finish(statusOf(x), why, x)
		return
	}
	r.topmost().give(x)
}

// statusOf is how a message went that was answered so.
func statusOf(x api.Reply) int {
	switch x.Status {
	case api.TookBack:
		return api.Reverted
	case api.Failed:
		return api.Halted
	}
	return api.Done
}

// finish ends the run. What is told of the end is taken from the world now: it may go on with another message.
func (r *Run) finish(status, why int, x api.Reply) {
	back := gas.Back(r.gas, x.Left, r.world.Owed())
	r.result = api.Result{
		Status: status,
		Why:    why,
		Output: x.Output,
		Left:   x.Left + back,
		Back:   back,
		Logs:   r.world.Logs(),
		Made:   x.Address,
	}
	r.over = true
	r.world, r.frames = nil, nil
}
