package flow

import "vouch/api"

// interval is how high the stack may be ahead of an instruction; the zero value: nothing has come to it yet.
type interval struct {
	lo, hi int
	there  bool
}

// just is the interval of one height.
func just(height int) interval {
	return interval{lo: height, hi: height, there: true}
}

// moved is the interval so many words higher.
func (w interval) moved(by int) interval {
	return interval{lo: w.lo + by, hi: w.hi + by, there: w.there}
}

// hull is the least interval that both lie in.
func (w interval) hull(other interval) interval {
	if !w.there {
		return other
	}
	return interval{lo: min(w.lo, other.lo), hi: max(w.hi, other.hi), there: true}
}

// pass goes through the instructions once, in order.
func (l line) pass() ([]api.Height, api.Errno, int) {
	stand := make([]interval, len(l.all))
	stand[0] = just(l.own.In)
	hand := func(from, to int, w interval) bool {
		if to <= from {
			return stand[to] == w
		}
		stand[to] = stand[to].hull(w)
		return true
	}
	for n, i := range l.all {
		if wrong := l.broken(i, stand[n]); wrong != api.OK {
			return nil, wrong, i.At
		}
		takes, leaves := l.needs(i)
		w := stand[n].moved(leaves - takes)
		for _, to := range l.onward(n) {
			if !hand(n, to, w) {
				return nil, api.ErrLoop, i.At
			}
		}
	}
	return l.heights(stand), api.OK, 0
}

// heights lays the intervals out with the places of their instructions.
func (l line) heights(stand []interval) []api.Height {
	told := make([]api.Height, len(l.all))
	for n, i := range l.all {
		told[n] = api.Height{At: i.At, Lo: stand[n].lo, Hi: stand[n].hi}
	}
	return told
}

// broken is the first of the clauses on an instruction, and on the words ahead of it, that is so.
func (l line) broken(i api.Instr, w interval) api.Errno {
	takes, _ := l.needs(i)
	height, asked := l.due(i)
	switch {
	case !w.there:
		return api.ErrDead
	case w.lo < takes && i.Code != retF:
		return api.ErrUnder
	case l.over(i, w.hi):
		return api.ErrOver
	case asked && w != just(height):
		return api.ErrReturn
	}
	return api.OK
}

// over: may there be too many words, within a section that is named, or behind the instruction?
func (l line) over(i api.Instr, hi int) bool {
	takes, leaves := l.needs(i)
	if i.Code == callF || i.Code == jumpF {
		t, _ := named(l.types, i)
		if hi-takes+t.Most > api.MaxStack {
			return true
		}
	}
	return i.Code != retF && i.Code != jumpF && hi-takes+leaves > api.MaxMost
}

// due is the height at which alone the instruction returns; false: it does not return.
func (l line) due(i api.Instr) (int, bool) {
	switch i.Code {
	case retF:
		return l.own.Out, true
	case jumpF:
		t, _ := named(l.types, i)
		return l.own.Out - t.Out + t.In, returns(t)
	}
	return 0, false
}
