package valid_test

import (
	"fmt"
	"slices"
	"testing"

	"vouch/api"
)

// 8.1: of one instruction: what bars it ahead of what it names.
func TestFirstOfOne(t *testing.T) {
	judged(t, "barred, and no such nested one", of(typed(0, never, 2), "5f 5f ee 00"), api.Runtime, no(api.ErrBarred, 0, 2))
	judged(t, "no such nested one", of(typed(0, never, 2), "5f 5f ee 00"), api.Init, no(api.ErrSub, 0, 2))
}

// 8.1: in one section: all of C1 ahead of C2, all of C2 ahead of C3, each in its own order.
func TestFirstInSection(t *testing.T) {
	for _, x := range []struct {
		text string
		want api.Reject
	}{
		// C1: the byte ahead.
		{"0c 0d fe", no(api.ErrOpcode, 0, 0)},
		{"5b 0c 60", no(api.ErrOpcode, 0, 1)},
		{"5b 0c 5b", no(api.ErrOpcode, 0, 1)},
		// C1 ahead of C2.
		{"e0 0009 fe 0c", no(api.ErrOpcode, 0, 4)},
		{"e3 0009 60", no(api.ErrImm, 0, 3)},
		{"e4 5b", no(api.ErrOpen, 0, 1)},
		{"00 f3 5b", no(api.ErrOpen, 0, 2)},
		// C1 ahead of C3.
		{"50 fe fe 0c", no(api.ErrOpcode, 0, 3)},
		{"5f 50 50 5b", no(api.ErrOpen, 0, 3)},
		// C2: the instruction ahead, whatever it is.
		{"e4 e0 0009", no(api.ErrNever, 0, 0)},
		{"e0 0009 e4", no(api.ErrTarget, 0, 0)},
		{"e3 0001 e0 0009", no(api.ErrSection, 0, 0)},
		{"e0 0009 e3 0001 fe", no(api.ErrTarget, 0, 0)},
		{"e3 0000 e3 0001 fe", no(api.ErrNever, 0, 0)},
		{"e3 0001 e3 0000 fe", no(api.ErrSection, 0, 0)},
		{"d1 0000 e4", no(api.ErrData, 0, 0)},
		{"e4 d1 0000 fe", no(api.ErrNever, 0, 0)},
		{"ec 00 d1 0000 fe", no(api.ErrSub, 0, 0)},
		{"d1 0000 ec 00 fe", no(api.ErrData, 0, 0)},
		{"5b 5b ec 00 e5 0001", no(api.ErrSub, 0, 2)},
		// C2 ahead of C3.
		{"50 e4", no(api.ErrNever, 0, 1)},
		{"fe 5b e0 0009", no(api.ErrTarget, 0, 2)},
		{"50 fe fe e3 0001 fe", no(api.ErrSection, 0, 3)},
		{"5f 5f fe d1 0000 fe", no(api.ErrData, 0, 3)},
		{"50 ec 00 fe", no(api.ErrSub, 0, 1)},
		// C3: the instruction ahead, and Most behind all of them.
		{"50 fe fe", no(api.ErrUnder, 0, 0)},
		{"fe 50 fe", no(api.ErrDead, 0, 1)},
		{"5f 5f 50 50 50 fe", no(api.ErrUnder, 0, 4)},
		{"5f fe fe", no(api.ErrDead, 0, 2)},
		{"5f fe", no(api.ErrMost, 0, 0)},
	} {
		bothKinds(t, x.text, of(typed(0, never, 0), x.text), x.want)
	}
	judged(t, "barred ahead", of(typed(0, never, 0), "00 e0 0009"), api.Init, no(api.ErrBarred, 0, 0))
	judged(t, "not barred", of(typed(0, never, 0), "00 e0 0009"), api.Runtime, no(api.ErrTarget, 0, 1))
	judged(t, "barred behind", of(typed(0, never, 0), "e0 0009 00"), api.Init, no(api.ErrTarget, 0, 0))
	judged(t, "barred, and dead", of(typed(0, never, 0), "fe 00"), api.Init, no(api.ErrBarred, 0, 1))
	judged(t, "dead", of(typed(0, never, 0), "fe 00"), api.Runtime, no(api.ErrDead, 0, 1))
	bothKinds(t, "ErrMost ahead of ErrFlag", second(0, 0, 1, "fe"), no(api.ErrMost, 1, 0))
	bothKinds(t, "heights ahead of ErrFlag", second(0, 0, 0, "5b fe fe"), no(api.ErrDead, 1, 2))
	bothKinds(t, "ErrFlag", second(0, 0, 0, "fe"), no(api.ErrFlag, 1, 0))
}

// broken is sections that break one clause each, as sections that never return and take nothing.
var broken = []struct {
	text  string
	wrong api.Errno
	at    int
}{
	{"5b 0c", api.ErrOpcode, 1},
	{"60", api.ErrImm, 0},
	{"5b 5b", api.ErrOpen, 1},
	{"5b e0 0009", api.ErrTarget, 1},
	{"e3 ffff fe", api.ErrSection, 0},
	{"e3 0000 fe", api.ErrNever, 0},
	{"5b e4", api.ErrNever, 1},
	{"5b d1 ffff fe", api.ErrData, 1},
	{"ec ff fe", api.ErrSub, 0},
	{"50 fe", api.ErrUnder, 0},
	{"fe fe", api.ErrDead, 1},
	{"5f e0 fffc", api.ErrLoop, 1},
	{"5f fe", api.ErrMost, 0},
}

// 8.1: between sections: whatever is broken in one is told ahead of whatever is broken in the next.
func TestFirstOfSections(t *testing.T) {
	types := typed(0, never, 0, 0, never, 0, 0, never, 0)
	for _, x := range broken {
		for _, y := range broken {
			what := fmt.Sprint(x.text, ", ", y.text)
			bothKinds(t, what, of(types, x.text, y.text, "e5 0001"), no(x.wrong, 0, x.at))
			bothKinds(t, what, of(types, "e5 0001", x.text, y.text), no(x.wrong, 1, x.at))
			bothKinds(t, what, of(types, x.text, "e5 0002", y.text), no(x.wrong, 0, x.at))
		}
	}
}

// 8.1: C1 to C3 of the last section ahead of C4; C4 ahead of C5; C5 ahead of C6; C6 ahead of C7, whatever the numbers.
func TestFirstOfClauses(t *testing.T) {
	bad := []byte{0xef, 0x00}
	for _, x := range broken {
		types := typed(0, never, 0, 0, never, 0, 0, never, 0)
		c := with(of(types, "fe", "fe", x.text), bad, bad)
		bothKinds(t, "C1 to C3 ahead of C4, "+x.text, c, no(x.wrong, 2, x.at))
	}
	apart := func(c api.Container) api.Container {
		c = copied(c)
		c.Types, c.Codes = append(c.Types, typed(0, never, 0)...), append(c.Codes, raw("fe"))
		return c
	}
	for _, x := range []struct {
		what string
		c    api.Container
		want api.Reject
	}{
		{"C5 and C6 and C7", uses(3, []int{0, 1}, []int{0}), no(api.ErrIdle, 0, 0, 2)},
		{"C6 and C7", uses(3, []int{0, 1, 2}, []int{2}), no(api.ErrBoth, 0, 0, 2)},
		{"C7", uses(3, []int{0, 1}, []int{2}), no(api.ErrCut, 0, 2, 0)},
	} {
		for n := range x.c.Subs {
			x.c.Subs[n] = bad
		}
		judged(t, x.what, x.c, api.Init, x.want)
		judged(t, "C4 and "+x.what, apart(x.c), api.Init, no(api.ErrApart, 1, 0))
	}
	judged(t, "named by what is apart", apartUse(), api.Init, no(api.ErrApart, 1, 0))
}

// apartUse is a container with a section that is not reached, which names the nested one.
func apartUse() api.Container {
	return with(of(typed(0, never, 0, 0, never, 2), "fe", "5f 5f ee 00"), bytesOf(stuck()))
}

// 8.1: C7, the nested container with the least number, even if the next one breaks more.
func TestFirstOfNested(t *testing.T) {
	texts := slices.Concat(broken, broken[:1])
	for n, x := range texts[:len(broken)] {
		y := texts[n+1]
		good, one, other := bytesOf(stuck()), bytesOf(of(typed(0, never, 0), x.text)), bytesOf(of(typed(0, never, 0), y.text))
		c := uses(4, []int{0, 1, 2}, []int{3})
		for _, subs := range [][][]byte{{one, other, other[:9], other}, {one, good, other, {0}}} {
			c.Subs = subs
			judged(t, x.text, c, api.Init, no(x.wrong, 0, x.at, 0))
		}
		c.Subs = [][]byte{good, one, other, other}
		judged(t, x.text, c, api.Init, no(x.wrong, 0, x.at, 1))
		c.Subs = [][]byte{good, good, good, one}
		judged(t, x.text, c, api.Init, no(x.wrong, 0, x.at, 3))
		c.Subs = [][]byte{good, other[:7], one, one}
		judged(t, x.text, c, api.Init, no(api.ErrCut, 0, 7, 1))
	}
}
