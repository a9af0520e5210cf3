package call

import (
	"vouch/api"
	"vouch/valid"
	"vouch/world"
)

// The kinds of what is asked for, in the order of api's asks.
const (
	toCall = iota
	toDelegate
	toStill
	toMake
	kinds
)

// row is what an ask of a kind leads to.
type row struct {
	// frame is the asker's with another Self, Caller, Value, Still and Kind, as far as they are not the asker's.
	frame func(by api.Frame, x api.Ask) api.Frame
	// code is the container; false: there is none, and no frame.
	code  func(w *world.World, by asker, x api.Ask) (*valid.Code, bool)
	moves bool // the value
	makes bool // an account
}

func rows() [kinds]row {
	return [kinds]row{
		toCall:     {frame: called, code: codeThere, moves: true},
		toDelegate: {frame: lent, code: codeThere},
		toStill:    {frame: stilled, code: codeThere},
		toMake:     {frame: making, code: codeWithin, moves: true, makes: true},
	}
}

// rowOf is the row of an ask.
func (r *Run) rowOf(x api.Ask) row { return r.rows[x.Kind-api.AskCall] }

// called runs for whoever is called.
func called(by api.Frame, x api.Ask) api.Frame {
	by.Self, by.Caller = x.To, by.Self
	by.Value, by.Kind = x.Value, api.Runtime
	return by
}

// lent is another one's code that runs for the asker.
func lent(by api.Frame, x api.Ask) api.Frame {
	by.Kind = api.Runtime
	return by
}

// stilled runs for whoever is called, and may change nothing.
func stilled(by api.Frame, x api.Ask) api.Frame {
	by = called(by, x) // of such an ask the value is 0
	by.Still = true
	return by
}

// making runs for what is made.
func making(by api.Frame, x api.Ask) api.Frame {
	by.Self, by.Caller = Made(by.Self, x.Salt), by.Self
	by.Value, by.Still, by.Kind = x.Value, false, api.Init
	return by
}

// codeThere is the code of whoever is called.
func codeThere(w *world.World, by asker, x api.Ask) (*valid.Code, bool) { return w.Code(x.To) }

// codeWithin is a nested container of the asker's.
func codeWithin(w *world.World, by asker, x api.Ask) (*valid.Code, bool) {
	c, wrong := by.sub(x.Sub)
	return c, wrong == api.OK
}
