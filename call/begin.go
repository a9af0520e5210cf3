package call

import (
	"vouch/api"
	"vouch/valid"
)

// frameOf is what the frame that is asked for begins with.
func (r *Run) frameOf(by asker, x api.Ask) api.Frame {
	f := r.rowOf(x).frame(by.given, x)
	f.Depth, f.Gas, f.Input = f.Depth+1, x.Gas, x.Input
	return f
}

// begin begins the frame that is asked for, above all that stand; where there is none, it answers.
func (r *Run) begin(by asker, x api.Ask) {
	row, f := r.rowOf(x), r.frameOf(by, x)
	if row.makes && !r.mayMake(f) {
		r.answer(api.Reply{Status: api.Failed}, api.HaltNone)
		return
	}
	c, there := row.code(r.world, by, x)
	if !there {
		r.move(row, f)
		r.answer(api.Reply{Status: api.Went, Left: x.Gas}, api.HaltNone)
		return
	}
	r.stand(row, f, c)
}

// mayMake counts an account that is asked for, ahead of any mark of its own; and tells whether it can be made.
func (r *Run) mayMake(f api.Frame) bool {
	r.world.Raise(f.Caller)
	r.world.Warm(f.Self)
	return !taken(r.world, f.Self)
}

// stand lets a frame stand above all others.
func (r *Run) stand(row row, f api.Frame, c *valid.Code) {
	mark := r.world.Mark()
	if row.makes {
		r.world.Make(f.Self)
	}
	r.move(row, f)
	runs := machineOf(r.engine, r.world, c, f)
	f.Input = nil
	r.frames = append(r.frames, frame{asker: asker{given: f, sub: c.Sub}, machine: runs, code: c, mark: mark})
}

// move moves the value that goes along, if one does. It is there: New, or the asker's step, has looked.
func (r *Run) move(row row, f api.Frame) {
	if row.moves {
		r.world.Move(f.Caller, f.Self, f.Value)
	}
}
