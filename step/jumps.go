package step

import (
	"vouch/api"
	"vouch/code"
	"vouch/word"
)

// jump: RJUMP.
func (r *Run) jump(i api.Instr) { r.lead(i, 0) }

// maybeJump: RJUMPI.
func (r *Run) maybeJump(i api.Instr) {
	if !word.IsZero(r.take()) {
		r.lead(i, 0)
	}
}

// tableJump: RJUMPV.
func (r *Run) tableJump(i api.Instr) {
	// The table's first byte is its last number: one that is at most that has a distance.
	if n, small := word.Uint(r.take()); small && n <= uint64(i.Imm[0]) {
		r.lead(i, int(n))
	}
}

// lead goes on where the jump of that number leads.
func (r *Run) lead(i api.Instr, jump int) {
	to := code.Leads(i)[jump]
	if !r.begins(to) {
		fault(api.FaultTarget)
	}
	r.next.At = to
}

// begins: does an instruction of the section begin there? All of them are looked for once, when a jump is made in it first.
func (r *Run) begins(at int) bool {
	s := r.place.Section
	if r.starts[s] == nil {
		r.starts[s] = code.Starts(r.whole.Codes[s])
	}
	return at >= 0 && at < len(r.starts[s]) && r.starts[s][at]
}

// sectionCall: CALLF.
func (r *Run) sectionCall(i api.Instr) {
	to, there := r.typeOf(named(i))
	if !there || to.Out == api.NoReturn {
		fault(api.FaultSection)
	}
	r.room(to)
	if r.Returns.Push(r.next) != api.OK {
		halt(api.HaltReturns)
	}
	r.next = api.Place{Section: named(i)}
}

// sectionJump: JUMPF.
func (r *Run) sectionJump(i api.Instr) {
	to, there := r.typeOf(named(i))
	if !there {
		fault(api.FaultSection)
	}
	r.room(to)
	r.next = api.Place{Section: named(i)}
}

// sectionReturn: RETF.
func (r *Run) sectionReturn(api.Instr) {
	to, wrong := r.Returns.Pop()
	if wrong != api.OK {
		fault(api.FaultReturn)
	}
	r.next = to
}

// room: has the stack the words that a section takes, and room for the most that it may have?
func (r *Run) room(t api.Type) {
	r.lookUnder(t.In)
	if r.Stack.Len()-t.In+t.Most > api.MaxStack {
		halt(api.HaltRoom)
	}
}

// typeOf is the type of a section; false: there is none of that number.
func (r *Run) typeOf(section int) (api.Type, bool) {
	if section >= len(r.whole.Types) {
		return api.Type{}, false
	}
	return r.whole.Types[section], true
}

// named is the number that an instruction names.
func named(i api.Instr) int {
	n, _ := code.Named(i)
	return n
}
