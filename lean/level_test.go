package lean_test

import (
	"testing"

	"vouch/api"
	"vouch/lean"
)

// 20.1, 20.3: a section whose heights are not level for one instruction alone stays as it is, whatever is idle in it; beside it the same with all heights level is turned.
func TestUneven(t *testing.T) {
	remains(t, "36 e1 0001 36 00")    // STOP alone, with 0 to 1
	remains(t, "5b 36 e1 0001 36 00") // and a NOP
	remains(t, "5f 50 36 e1 0001 36 00")
	remains(t, "e0 0000 36 e1 0001 36 00")
	remains(t, "36 e1 0001 36 5b 00")
	remains(t, "36 e1 0005 36 e1 0004 00 e0 0001 36 00")
	remains(t, "36 e1 0006 36 e1 0001 36 fe 5b 00") // INVALID alone, amid level ones
	remains(t, "5b 36 e1 0006 36 e1 0001 36 fe 00")
	becomes(t, "5b 36 e1 0000 00", "36 e1 0000 00")
	becomes(t, "36 36 e1 0001 15 5b 50 00", "36 36 e1 0001 15 50 00") // as high on both ways
	remains(t, "36 36 e1 0001 36 5b 50 00")                           // one higher on one of them
	remains(t, "36 36 36 e1 0001 50 5b 50 00")                        // one lower
}

// 20.3: sections that are level and sections that are not, side by side: each by itself. Most of those that are not stays too, and so does what calls them.
func TestBeside(t *testing.T) {
	types := typed(0, 1, 1, 0, 0, never, 0, 0, 0, 0, 2, 1, 0)
	c := high(of(types,
		"5b 36 e3 0001 50 36 e1 0003 e5 0002 5b e3 0003 36 36 e3 0004 5f 50 00", // level
		"5b 5f 50 15 e4",               // level
		"5b 36 e1 0001 36 5b 36 50 fe", // not level
		"36 36 50 50 e4",               // level and lean
		"36 e1 0002 01 e4 01 5b e4",    // level
	))
	want := copyOf(c)
	want.Codes[0] = raw("36 e3 0001 50 36 e1 0003 e5 0002 e3 0003 36 36 e3 0004 00")
	want.Codes[1] = raw("15 e4")
	want.Codes[4] = raw("36 e1 0002 01 e4 01 e4")
	turns(t, c, high(want))
	if isLevel(c, 2) || !isLevel(c, 0) || lean.Is(c, api.Runtime) {
		t.Error("not as it is meant")
	}
}

// 20.3: Most gets less where the highest instructions are gone, and stays where others are as high; In and Out stay.
func TestMost(t *testing.T) {
	turns(t, one(3, "36 5f 5f 50 50 00"), one(1, "36 00"))
	turns(t, one(3, "36 36 36 50 50 5f 5f 50 50 00"), one(3, "36 36 36 50 50 00"))
	turns(t, of(typed(2, 2, 2, 3), "36 36 e3 0001 00", "5f 50 e4"), of(typed(2, 2, 2, 2), "36 36 e3 0001 00", "e4"))
	turns(t, of(typed(3, 2, 3, 4), "36 36 e3 0001 00", "36 5f 50 e4"), of(typed(3, 2, 3, 3), "36 36 e3 0001 00", "36 e4"))
}

// filler is so many bytes that do nothing that is idle.
func filler(size int) []byte {
	if size%2 == 1 {
		return join(raw("36 15 50"), times("36 50", (size-3)/2))
	}
	return times("36 50", size/2)
}

// gives holds what is made of a container; one that is so long is not held against all the rest.
func gives(t testing.TB, c, want api.Container) {
	t.Helper()
	if d := leaned(t, c, api.Runtime); !same(d, want) {
		t.Errorf("%s: turned into %s, not %s", told(c), told(d), told(want))
	}
	if lean.Is(c, api.Runtime) != same(c, want) || !lean.Is(want, api.Runtime) {
		t.Errorf("%s, %s: Is", told(c), told(want))
	}
}

// 20.1: a section of 32768 bytes may be level, one of one more is not: whatever is idle in it stays.
func TestLongest(t *testing.T) {
	nops := func(size int) api.Container { return fit(times("5b", size-1), raw("00")) }
	gives(t, nops(32767), one(0, "00"))
	gives(t, nops(32768), one(0, "00"))
	for _, size := range []int{32769, 65535} {
		gives(t, nops(size), nops(size))
	}
	for _, text := range []string{"5b", "e0 0000", "5f 50", "36 e1 0004 36 e1 0003 e0 0001 fe"} {
		idle := raw(text)
		at := fit(idle, filler(32767-len(idle)), raw("00"))
		if d := leaned(t, at, api.Runtime); len(at.Codes[0]) != 32768 || same(at, d) || !isLean(d, api.Runtime) {
			t.Errorf("%s in 32768 bytes stays", text)
		}
		longer := fit(idle, filler(32768-len(idle)), raw("00"))
		gives(t, longer, longer)
	}
}

// 20.1: sections of 32768 bytes and of one more, one beside the other: each by itself.
func TestLongestBeside(t *testing.T) {
	types := typed(0, 0, never, 0)
	goes, nops := raw("5b e5 0001"), times("5b", 32767)
	c := api.Container{Types: types, Codes: [][]byte{goes, join(nops, raw("5b 00"))}}
	gives(t, c, api.Container{Types: types, Codes: [][]byte{goes[1:], c.Codes[1]}})
	c = api.Container{Types: types, Codes: [][]byte{join(nops[2:], goes), raw("5b 00")}}
	gives(t, c, api.Container{Types: types, Codes: [][]byte{c.Codes[0], raw("00")}})
	c = api.Container{Types: types, Codes: [][]byte{join(nops[3:], goes), join(nops, raw("00"))}}
	gives(t, c, api.Container{Types: types, Codes: [][]byte{goes[1:], raw("00")}})
}

// 20.1, 20.3: the farthest jumps there are, back and forward.
func TestFarthest(t *testing.T) {
	for _, c := range []api.Container{fit(filler(32765), raw("e0 8000")), fit(raw("36 e1 7ffb"), filler(32763), raw("00"))} {
		gives(t, c, c)
	}
	gives(t, fit(raw("5b"), filler(32764), raw("e0 8000")), fit(filler(32764), raw("e0 8001"))) // to the NOP
	gives(t, fit(raw("5b"), filler(32764), raw("e0 8001")), fit(filler(32764), raw("e0 8001")))
	gives(t, fit(raw("36 e1 7ffb 5b"), filler(32762), raw("00")), fit(raw("36 e1 7ffa"), filler(32762), raw("00")))
}

// 20.1, 20.3: jumps to an RJUMP close by, which are led on as far as there may be; the RJUMP is run into, and stays.
func TestLedFarthest(t *testing.T) {
	gives(t, fit(filler(32756), raw("36 e1 0003 e0 8005 36 50 e0 fff8")), fit(filler(32756), raw("36 e1 0003 e0 8005 36 50 e0 8000")))
	behind := join(filler(32756), raw("00"))
	gives(t, fit(raw("36 e1 0004 36 e1 0003 e0 7ff4"), behind), fit(raw("36 e1 7ffb 36 e1 0003 e0 7ff4"), behind))
	behind = join(filler(32755), raw("00"))
	gives(t, fit(raw("36 e2 00 0004 36 e1 0003 e0 7ff3"), behind), fit(raw("36 e2 00 7ffa 36 e1 0003 e0 7ff3"), behind))
}
