package valid

import (
	"slices"

	"vouch/api"
	"vouch/code"
	"vouch/flow"
	"vouch/op"
)

// The instructions that name something, and the one that returns.
const (
	dataLoadN  = 0xd1
	callF      = 0xe3
	retF       = 0xe4
	jumpF      = 0xe5
	eofCreate  = 0xec
	returnCode = 0xee
)

// wordBytes is how many bytes of the data DATALOADN reads.
const wordBytes = 32

// section is one section of a container that is judged as a kind.
type section struct {
	whole  api.Container
	kind   int
	number int
}

// own is the section's type.
func (s section) own() api.Type { return s.whole.Types[s.number] }

// bytes are the section's code.
func (s section) bytes() []byte { return s.whole.Codes[s.number] }

// broken is the first of C1 to C3 that is broken in the section, and the place.
func (s section) broken() (api.Errno, int) {
	all, wrong, at := code.Scan(s.bytes())
	if wrong != api.OK {
		return wrong, at
	}
	starts := code.Starts(s.bytes())
	for _, i := range all {
		if wrong := s.misled(i, starts); wrong != api.OK {
			return wrong, i.At
		}
	}
	return s.unsteady()
}

// misled is what C2 has against an instruction.
func (s section) misled(i api.Instr, starts []bool) api.Errno {
	astray := func(to int) bool { return to < 0 || to >= len(starts) || !starts[to] }
	switch {
	case op.Bars(i.Code, s.kind):
		return api.ErrBarred
	case slices.ContainsFunc(code.Leads(i), astray):
		return api.ErrTarget
	}
	return s.misnamed(i)
}

// misnamed is what C2 has against what an instruction names, and against one that returns.
func (s section) misnamed(i api.Instr) api.Errno {
	named, _ := code.Named(i)
	switch {
	case i.Code == callF || i.Code == jumpF:
		return s.misused(i.Code, named)
	case i.Code == retF && !returns(s.own()):
		return api.ErrNever
	case i.Code == dataLoadN && named+wordBytes > s.whole.Size:
		return api.ErrData
	case (i.Code == eofCreate || i.Code == returnCode) && named >= len(s.whole.Subs):
		return api.ErrSub
	}
	return api.OK
}

// misused is what C2 has against a CALLF or a JUMPF of the section with this number.
func (s section) misused(by, named int) api.Errno {
	if named >= len(s.whole.Types) {
		return api.ErrSection
	}
	t := s.whole.Types[named]
	switch {
	case by == callF && !returns(t):
		return api.ErrNever
	case by == jumpF && returns(t) && !returns(s.own()):
		return api.ErrNever
	case by == jumpF && returns(t) && t.Out > s.own().Out:
		return api.ErrOuts
	}
	return api.OK
}

// unsteady is what C3 has against the section, and the place.
func (s section) unsteady() (api.Errno, int) {
	told, wrong, at := flow.Heights(s.whole.Types, s.number, s.bytes())
	switch {
	case wrong != api.OK:
		return wrong, at
	case flow.Most(told) != s.own().Most:
		return api.ErrMost, 0
	case returns(s.own()) && !flow.Returns(s.whole.Types, s.bytes()):
		return api.ErrFlag, 0
	}
	return api.OK, 0
}

// returns: does a section of this type return?
func returns(t api.Type) bool { return t.Out != api.NoReturn }
