package exec

import (
	"vouch/api"
	"vouch/call"
	"vouch/world"
)

// Start is a run of a message at a world, ahead of its first step.
type Start struct {
	world *world.World // nobody else's: so it stays as the run leaves it
	run   *call.Run
}

// Begin begins one.
func Begin(l []api.Account, b api.Block, m api.Message, engine int) (*Start, error) {
	w, wrong, at := world.New(l)
	if wrong != api.OK {
		return nil, ofAccounts(wrong, at)
	}
	r, wrong := call.New(w, b, m, engine)
	if wrong != api.OK {
		return nil, ofMessage(wrong, m)
	}
	return &Start{world: w, run: r}, nil
}

// Go makes up to so many steps; how many it made.
func (s *Start) Go(steps int) int { return s.run.Go(steps) }

// Next is the step that comes; false: it has ended.
func (s *Start) Next() (api.Seen, bool) { return s.run.Next() }

// Ended is how it went, and the world behind it; false: it has not ended.
func (s *Start) Ended() (api.Result, []api.Account, bool) {
	went, ended := s.run.Ended()
	if !ended {
		return api.Result{}, nil, false
	}
	return went, s.world.Accounts(), true
}
