package call_test

import (
	"bytes"
	"testing"

	"vouch/api"
	"vouch/call"
	"vouch/container"
	"vouch/step"
	"vouch/valid"
	"vouch/world"
)

// model tells a message's run once more, by recursion: a frame that asks for another one is a call within a call; and row by row of the document's table.
type model struct {
	t     testing.TB
	w     *world.World
	b     api.Block
	m     api.Message
	see   func(s api.Seen) // it is told ahead of each step
	steps uint64
	met   map[string]int
}

// run is the result of the message, which New does not refuse.
func (x *model) run() api.Result {
	m := x.m
	f := api.Frame{Self: m.To, Caller: m.From, Value: m.Value, Input: m.Input, Gas: m.Gas, Still: m.Still, Kind: api.Runtime}
	to := m.To
	if m.Make {
		to = call.Made(m.From, m.Salt)
		f.Self, f.Still, f.Kind = to, false, api.Init
	}
	x.w.Begin(m.From, to, x.b.Coinbase)
	var end api.Ending
	switch code, there := x.w.Code(to); {
	case m.Make:
		x.w.Raise(m.From)
		start, _ := valid.Validate(m.Init, api.Init)
		_, end = x.frame(start, f, true)
	case there:
		_, end = x.frame(code, f, true)
	default:
		x.w.Move(m.From, m.To, m.Value)
		end = api.Ending{Kind: api.EndStop, Left: m.Gas}
	}
	return x.result(end, to)
}

// result is what is told of the first frame's end.
func (x *model) result(end api.Ending, to api.Address) api.Result {
	out := api.Result{Status: api.Done, Why: end.Why, Output: end.Output, Left: end.Left, Steps: x.steps, Logs: x.w.Logs()}
	switch end.Kind {
	case api.EndDeploy:
		out.Output, out.Made = nil, to
	case api.EndRevert:
		out.Status = api.Reverted
	case api.EndHalt:
		out.Status = api.Halted
	case api.EndFault:
		x.t.Fatal("a fault")
	}
	used := x.m.Gas - end.Left
	out.Back = min(uint64(x.w.Owed()), used/5)
	out.Left += out.Back
	x.met[map[int]string{api.Done: "done", api.Reverted: "reverted", api.Halted: "halted"}[out.Status]]++
	return out
}

// frame runs one, and all that it asks for.
func (x *model) frame(code *valid.Code, f api.Frame, moves bool) (api.Reply, api.Ending) {
	f.Origin, f.Price, f.Blobs, f.Block = x.m.From, x.m.Price, x.m.Blobs, x.b
	mark := x.w.Mark()
	if f.Kind == api.Init {
		x.w.Make(f.Self)
	}
	if moves {
		x.w.Move(f.Caller, f.Self, f.Value)
	}
	whole, _ := container.Parse(code.Bytes(), false)
	r, wrong := step.New(x.w, whole, f)
	if wrong != api.OK {
		x.t.Fatal(wrong)
	}
	for r.State() != api.Ended {
		s := r.Sight()
		x.see(api.Seen{Depth: f.Depth, Self: f.Self, Section: s.Section, At: s.At, Code: int(whole.Codes[s.Section][s.At]), Height: s.Height, Left: s.Left})
		x.steps++
		r.Go(1)
		if ask, asks := r.Asked(); asks {
			if wrong := r.Give(x.asked(code, f, ask)); wrong != api.OK {
				x.t.Fatal(wrong)
			}
		}
	}
	end, _ := r.Ended()
	return x.ended(code, f, mark, end), end
}

// asked is the answer to what a frame asks for.
func (x *model) asked(code *valid.Code, by api.Frame, ask api.Ask) api.Reply {
	f := api.Frame{Self: ask.To, Caller: by.Self, Value: ask.Value, Input: ask.Input, Gas: ask.Gas, Still: by.Still, Kind: api.Runtime, Depth: by.Depth + 1}
	x.met[map[int]string{api.AskCall: "AskCall", api.AskDelegate: "AskDelegate", api.AskStill: "AskStill", api.AskMake: "AskMake"}[ask.Kind]]++
	switch ask.Kind {
	case api.AskDelegate:
		f.Self, f.Caller, f.Value = by.Self, by.Caller, by.Value
	case api.AskStill:
		f.Value, f.Still = api.Word{}, true
	case api.AskMake:
		return x.makes(code, f, ask)
	}
	to, there := x.w.Code(ask.To)
	if !there {
		x.met["without a frame"]++
		x.w.Move(f.Caller, f.Self, f.Value)
		return api.Reply{Status: api.Went, Left: ask.Gas}
	}
	reply, _ := x.frame(to, f, ask.Kind == api.AskCall)
	return reply
}

// makes is the answer to AskMake.
func (x *model) makes(code *valid.Code, f api.Frame, ask api.Ask) api.Reply {
	f.Self, f.Still, f.Kind = call.Made(f.Caller, ask.Salt), false, api.Init
	x.w.Raise(f.Caller)
	x.w.Warm(f.Self)
	if _, coded := x.w.Code(f.Self); coded || x.w.Nonce(f.Self) > 0 {
		x.met["taken"]++
		return api.Reply{Status: api.Failed}
	}
	start, wrong := code.Sub(ask.Sub)
	if wrong != api.OK {
		x.t.Fatal(wrong)
	}
	reply, _ := x.frame(start, f, true)
	return reply
}

// ended is the answer of a frame that has ended.
func (x *model) ended(code *valid.Code, f api.Frame, mark int, end api.Ending) api.Reply {
	reply := api.Reply{Output: end.Output, Left: end.Left}
	switch end.Kind {
	case api.EndStop, api.EndReturn:
		x.met["EndStop, EndReturn"]++
	case api.EndDeploy:
		x.met["EndDeploy"]++
		laid, wrong := code.Lay(end.Sub, end.Behind)
		if wrong != api.OK || !bytes.Equal(laid.Bytes(), end.Output) {
			x.t.Fatalf("%v: laid %x", wrong, end.Output)
		}
		x.w.Lay(f.Self, laid)
		reply.Output, reply.Address = nil, f.Self
	case api.EndRevert:
		x.met["EndRevert"]++
		reply.Status = api.TookBack
		x.w.Back(mark)
		return reply
	default:
		x.met["EndHalt"]++
		x.w.Back(mark)
		return api.Reply{Status: api.Failed}
	}
	x.w.Forget(mark)
	return reply
}
