package valid_test

import (
	"testing"

	"vouch/api"
)

// 8.1: the rows of the chapter's table 'Examples'.
func TestExamples(t *testing.T) {
	judged(t, "00 as Runtime", of(typed(0, never, 0), "00"), api.Runtime, api.Reject{})
	judged(t, "00 as Init", of(typed(0, never, 0), "00"), api.Init, no(api.ErrBarred, 0, 0))
	judged(t, "00 as 3", of(typed(0, never, 0), "00"), 3, no(api.ErrArg, 0, 0))
	judged(t, "5f 00", of(typed(0, never, 1), "5f 00"), api.Runtime, api.Reject{})
	judged(t, "5f 00 with Most 2", of(typed(0, never, 2), "5f 00"), api.Runtime, no(api.ErrMost, 0, 0))
	judged(t, "5f 00 with Most 0", of(typed(0, never, 0), "5f 00"), api.Runtime, no(api.ErrMost, 0, 0))
	judged(t, "50 00", of(typed(0, never, 0), "50 00"), api.Runtime, no(api.ErrUnder, 0, 0))
	judged(t, "00 00", of(typed(0, never, 0), "00 00"), api.Runtime, no(api.ErrDead, 0, 1))
	judged(t, "to itself", of(typed(0, never, 0), "e0 ff fd"), api.Runtime, api.Reject{})
	judged(t, "to the next", of(typed(0, never, 0), "e0 00 00 00"), api.Runtime, api.Reject{})
	judged(t, "outside", of(typed(0, never, 0), "e0 00 01 00"), api.Runtime, no(api.ErrTarget, 0, 0))
	judged(t, "CALLF", of(typed(0, never, 0, 0, 0, 0), "e3 00 01 00", "e4"), api.Runtime, api.Reject{})
	judged(t, "CALLF of one that never returns", of(typed(0, never, 0, 0, never, 0), "e3 00 01 00", "00"), api.Runtime, no(api.ErrNever, 0, 0))
	judged(t, "apart", of(typed(0, never, 0, 0, 0, 0), "00", "e4"), api.Runtime, no(api.ErrApart, 1, 0))
	judged(t, "JUMPF to one that returns", of(typed(0, never, 0, 0, 0, 0), "e5 00 01", "e4"), api.Runtime, no(api.ErrNever, 0, 0))
	judged(t, "no way to return", of(typed(0, never, 0, 0, 0, 0), "e3 00 01 00", "e5 00 00"), api.Runtime, no(api.ErrFlag, 1, 0))
	for _, there := range []int{0, 31, 32} {
		judged(t, "32 bytes declared", declared(of(typed(0, never, 1), "d1 00 00 00"), 32, there), api.Runtime, api.Reject{})
	}
	judged(t, "31 bytes declared", declared(of(typed(0, never, 1), "d1 00 00 00"), 31, 31), api.Runtime, no(api.ErrData, 0, 0))
}
