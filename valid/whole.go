package valid

import (
	"slices"

	"vouch/api"
	"vouch/code"
)

// use is which instructions name a nested container.
type use struct {
	made bool // EOFCREATE does
	laid bool // RETURNCODE does
}

// kind is what a nested container is to be valid as.
func (u use) kind() int {
	if u.made {
		return api.Init
	}
	return api.Runtime
}

// alone asks C1 to C6: all but what is nested in the container. It tells what names each nested one; or the first clause that is broken.
func alone(c api.Container, kind int) ([]use, api.Reject) {
	for n := range c.Codes {
		if wrong, at := (section{whole: c, kind: kind, number: n}).broken(); wrong != api.OK {
			return nil, api.Reject{Code: wrong, Section: n, At: at}
		}
	}
	if n := slices.Index(reached(callsOf(c)), false); n >= 0 {
		return nil, api.Reject{Code: api.ErrApart, Section: n}
	}
	uses := usesOf(c)
	if n := slices.Index(uses, use{}); n >= 0 {
		return nil, api.Reject{Code: api.ErrIdle, Path: []int{n}}
	}
	if n := slices.Index(uses, use{made: true, laid: true}); n >= 0 {
		return nil, api.Reject{Code: api.ErrBoth, Path: []int{n}}
	}
	return uses, api.Reject{}
}

// callsOf is of each section of a container the sections that it names.
func callsOf(c api.Container) [][]int {
	calls := make([][]int, len(c.Codes))
	for n, b := range c.Codes {
		for i := range code.All(b) {
			if i.Code == callF || i.Code == jumpF {
				to, _ := code.Named(i)
				calls[n] = append(calls[n], to)
			}
		}
	}
	return calls
}

// usesOf is of each nested container of a container which instructions name it.
func usesOf(c api.Container) []use {
	uses := make([]use, len(c.Subs))
	for _, b := range c.Codes {
		for i := range code.All(b) {
			named, _ := code.Named(i)
			switch i.Code {
			case eofCreate:
				uses[named].made = true
			case returnCode:
				uses[named].laid = true
			}
		}
	}
	return uses
}

// reached: does section 0 lead to each section, by what they name?
func reached(calls [][]int) []bool {
	there := make([]bool, len(calls))
	there[0] = true
	work := []int{0}
empty:
	for len(work) > 0 {
		n := work[len(work)-1]
		for _, to := range calls[n] {
			if !there[to] {
				there[to] = true
				work = append(work, to)
				continue empty
			}
		}
		work = work[:len(work)-1]
	}
	return there
}
