package flow

import (
	"slices"

	"vouch/api"
	"vouch/code"
	"vouch/op"
)

// The instructions that hang on the types of sections.
const (
	callF = 0xe3 + iota
	retF
	jumpF
)

// line is the instructions of one section, one behind the other, and the types that they hang on.
type line struct {
	types []api.Type
	own   api.Type
	all   []api.Instr
	order map[int]int // which one of all begins at a place
}

// lineOf is the line of a section; false: the three may not be.
func lineOf(types []api.Type, section int, b []byte) (line, bool) {
	if section < 0 || section >= len(types) || slices.ContainsFunc(types, outside) {
		return line{}, false
	}
	all, wrong, _ := code.Scan(b)
	if wrong != api.OK {
		return line{}, false
	}
	l := line{types: types, own: types[section], all: all, order: ordered(all)}
	return l, !slices.ContainsFunc(all, l.astray)
}

// ordered finds an instruction's number in the order by its place.
func ordered(all []api.Instr) map[int]int {
	order := make(map[int]int, len(all))
	for n, i := range all {
		order[i.At] = n
	}
	return order
}

// outside: has the type a number that no section's may have?
func outside(t api.Type) bool {
	return t.In < 0 || t.In > api.MaxIn || t.Out < 0 || t.Out > api.NoReturn || t.Most < 0 || t.Most > api.MaxMost
}

// returns: does a section of this type return?
func returns(t api.Type) bool {
	return t.Out != api.NoReturn
}

// astray: does the instruction jump, call or return where it may not?
func (l line) astray(i api.Instr) bool {
	if _, there := l.targets(i); !there {
		return true
	}
	switch i.Code {
	case callF:
		t, there := named(l.types, i)
		return !there || !returns(t)
	case jumpF:
		t, there := named(l.types, i)
		return !there || returns(t) && (!returns(l.own) || t.Out > l.own.Out)
	case retF:
		return !returns(l.own)
	}
	return false
}

// targets are the numbers, in the order, of the instructions to which its jumps lead; false: one of them leads to none.
func (l line) targets(i api.Instr) ([]int, bool) {
	var numbers []int
	for _, distance := range code.Leads(atStart(i)) {
		n, there := l.order[i.At+distance]
		if !there {
			return nil, false
		}
		numbers = append(numbers, n)
	}
	return numbers, true
}

// onward is where what the instruction passes on comes to, by the numbers in the order: behind it first.
func (l line) onward(n int) []int {
	to, _ := l.targets(l.all[n])
	if row, _ := op.Of(l.all[n].Code); row.Ends {
		return to
	}
	return append([]int{n + 1}, to...)
}

// needs is what the instruction takes and leaves here.
func (l line) needs(i api.Instr) (takes, leaves int) {
	switch i.Code {
	case callF:
		t, _ := named(l.types, i)
		return t.In, t.Out
	case jumpF:
		t, _ := named(l.types, i)
		return t.In, 0
	case retF:
		return l.own.Out, 0
	}
	takes, leaves, _ = op.Needs(i.Code, i.Imm)
	return takes, leaves
}

// named is the type of the section that a CALLF or a JUMPF names; false: it names none of these.
func named(types []api.Type, i api.Instr) (api.Type, bool) {
	s, names := code.Named(atStart(i))
	if !names || s >= len(types) {
		return api.Type{}, false
	}
	return types[s], true
}

// atStart is the same instruction as if a section began with it. Chapter 6 tells jumps and names up to the place MaxText alone, but no bound is set here to how long a section is.
func atStart(i api.Instr) api.Instr {
	return api.Instr{Code: i.Code, Imm: i.Imm, Next: i.Next - i.At}
}
