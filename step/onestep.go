package step

import (
	"vouch/api"
	"vouch/code"
	"vouch/op"
)

// step makes one step. What ends the frame is thrown, however deep inside it is found; so place stays that of the instruction then.
func (r *Run) step() {
	defer func() {
		if thrown := recover(); thrown != nil {
			r.ending, r.state = thrown.(api.Ending), api.Ended
		}
	}()
	i := r.look()
	known, _ := op.Of(i.Code)
	r.pay(uint64(known.Gas))
	r.next = api.Place{Section: r.place.Section, At: i.Next}
	r.act(i)
	if r.state == api.Going {
		r.place = r.next
	}
}

// look is the instruction at the place, once all is known to be there that it needs.
func (r *Run) look() api.Instr {
	b, at := r.whole.Codes[r.place.Section], r.place.At
	i, wrong := code.One(b, at)
	switch {
	case wrong == api.ErrArg:
		fault(api.FaultPlace)
	case wrong == api.ErrOpcode || op.Bars(int(b[at]), r.frame.Kind):
		fault(api.FaultOpcode)
	case wrong == api.ErrImm:
		fault(api.FaultImm)
	}
	takes, leaves, _ := op.Needs(i.Code, i.Imm)
	r.lookUnder(takes)
	if r.Stack.Len()-takes+leaves > api.MaxStack {
		fault(api.FaultOver)
	}
	return i
}

// lookUnder: has the stack so many words?
func (r *Run) lookUnder(words int) {
	if r.Stack.Len() < words {
		fault(api.FaultUnder)
	}
}

// act does what the instruction does.
func (r *Run) act(i api.Instr) {
	row := r.rows[groupOf(i.Code)]
	if row.changes && r.frame.Still {
		halt(api.HaltStill)
	}
	row.do(r, i)
}

// fault ends the frame: its code is wrong.
func fault(why int) { panic(api.Ending{Kind: api.EndFault, Why: why}) }

// halt ends the frame, as may happen to any code.
func halt(why int) { panic(api.Ending{Kind: api.EndHalt, Why: why}) }

// end ends the frame well: with what gas is left.
func (r *Run) end(x api.Ending) {
	x.Left = r.meter.Left()
	panic(x)
}

// take takes the topmost word; the look ahead of the step has counted that there is one.
func (r *Run) take() api.Word { return r.Stack.Take() }

// leave leaves a word; the look ahead of the step has counted that there is room.
func (r *Run) leave(x api.Word) { r.Stack.Put(x) }
