package valid_test

import (
	"fmt"
	"slices"
	"testing"

	"vouch/api"
	"vouch/container"
	"vouch/valid"
)

// around is a container with three nested ones: b has this number, and is made or laid; the others are good, and made.
func around(b []byte, number int, laid bool) api.Container {
	made, lays := []int{}, []int{}
	for n := range 3 {
		if n == number && laid {
			lays = append(lays, n)
		} else {
			made = append(made, n)
		}
	}
	c := uses(3, made, lays)
	c.Subs[number] = b
	return c
}

// 8.1: C7, what Parse says of a nested container, at its place: whole, if it is made, open, if it is laid.
func TestNestedParse(t *testing.T) {
	least := bytesOf(stuck())
	short := bytesOf(declared(stuck(), 5, 3))
	full := bytesOf(declared(stuck(), 5, 5))
	turned := func(at int, to byte) []byte {
		b := slices.Clone(least)
		b[at] = to
		return b
	}
	for _, x := range []struct {
		what       string
		b          []byte
		made, laid api.Reject
	}{
		{"least", least, api.Reject{}, api.Reject{}},
		{"full", full, api.Reject{}, api.Reject{}},
		{"short", short, no(api.ErrCut, 0, 23), api.Reject{}},
		{"no data", full[:20], no(api.ErrCut, 0, 20), api.Reject{}},
		{"cut", least[:19], no(api.ErrCut, 0, 19), no(api.ErrCut, 0, 19)},
		{"a byte", least[:1], no(api.ErrCut, 0, 1), no(api.ErrCut, 0, 1)},
		{"tail", append(slices.Clone(full), 1), no(api.ErrTail, 0, 25), no(api.ErrTail, 0, 25)},
		{"magic", turned(0, 0xee), no(api.ErrMagic, 0, 0), no(api.ErrMagic, 0, 0)},
		{"second magic", turned(1, 1), no(api.ErrMagic, 0, 1), no(api.ErrMagic, 0, 1)},
		{"version", turned(2, 2), no(api.ErrVersion, 0, 2), no(api.ErrVersion, 0, 2)},
		{"kind", turned(3, 2), no(api.ErrKind, 0, 3), no(api.ErrKind, 0, 3)},
		{"types", turned(5, 5), no(api.ErrTypes, 0, 4), no(api.ErrTypes, 0, 4)},
		{"codes", turned(8, 2), no(api.ErrCodes, 0, 7), no(api.ErrCodes, 0, 7)},
		{"none", turned(10, 0), no(api.ErrNone, 0, 9), no(api.ErrNone, 0, 9)},
		{"type", turned(15, 1), no(api.ErrType, 0, 15), no(api.ErrType, 0, 15)},
		{"most", turned(17, 4), no(api.ErrType, 0, 17), no(api.ErrType, 0, 17)},
		{"end", turned(14, 1), no(api.ErrKind, 0, 14), no(api.ErrKind, 0, 14)},
	} {
		for number := range 3 {
			for _, laid := range []bool{false, true} {
				want := x.made
				if laid {
					want = x.laid
				}
				if want.Code != api.OK {
					want.Path = []int{number}
				}
				judged(t, fmt.Sprint(x.what, number, laid), around(x.b, number, laid), api.Init, want)
			}
		}
	}
	judged(t, "two that are cut", around(short, 1, false), api.Runtime, no(api.ErrCut, 0, 23, 1))
}

// 8.1: C7, as what a nested container is judged hangs on what names it, not on what it is nested in.
func TestNestedKind(t *testing.T) {
	makes := with(of(typed(0, never, 4), "5f 5f 5f 5f ec 00 fe"), bytesOf(stuck()))
	lays := with(of(typed(0, never, 2), "5f 5f ee 00"), bytesOf(stuck()))
	returns := of(typed(0, never, 2), "5f 5f f3")
	for _, x := range []struct {
		what       string
		c          api.Container
		made, laid api.Reject
	}{
		{"STOP", stop(), no(api.ErrBarred, 0, 0), api.Reject{}},
		{"RETURN", returns, no(api.ErrBarred, 0, 2), api.Reject{}},
		{"RETURNCODE", lays, api.Reject{}, no(api.ErrBarred, 0, 2)},
		{"EOFCREATE", makes, api.Reject{}, api.Reject{}},
		{"INVALID", stuck(), api.Reject{}, api.Reject{}},
	} {
		made, laid := x.made, x.laid
		if made.Code != api.OK {
			made.Path = []int{2}
		}
		if laid.Code != api.OK {
			laid.Path = []int{2}
		}
		judged(t, x.what, around(bytesOf(x.c), 2, false), api.Init, made)
		judged(t, x.what, around(bytesOf(x.c), 2, false), api.Runtime, made)
		judged(t, x.what, around(bytesOf(x.c), 2, true), api.Init, laid)
	}
}

// 8.1: C7, every clause within a nested container, with its section and its place.
func TestNestedClauses(t *testing.T) {
	for _, x := range broken {
		inner := second(0, never, 0, x.text)
		for number := range 3 {
			for _, laid := range []bool{false, true} {
				judged(t, x.text, around(bytesOf(inner), number, laid), api.Init, no(x.wrong, 1, x.at, number))
			}
		}
	}
	judged(t, "apart", around(bytesOf(linked([]int{2}, nil, nil)), 1, false), api.Runtime, no(api.ErrApart, 1, 0, 1))
	judged(t, "idle", around(bytesOf(uses(4, []int{0, 1, 3}, nil)), 1, false), api.Runtime, no(api.ErrIdle, 0, 0, 1, 2))
	judged(t, "both", around(bytesOf(uses(2, []int{0, 1}, []int{1})), 2, false), api.Runtime, no(api.ErrBoth, 0, 0, 2, 1))
	data := declared(of(typed(0, never, 1), "d1 0001 fe"), 33, 33)
	judged(t, "data", around(bytesOf(data), 0, false), api.Runtime, api.Reject{})
	judged(t, "open data", around(bytesOf(declared(data, 33, 0)), 0, true), api.Init, api.Reject{})
	judged(t, "too few data", around(bytesOf(declared(data, 32, 32)), 0, false), api.Runtime, no(api.ErrData, 0, 0, 0))
	judged(t, "too few open data", around(bytesOf(declared(data, 32, 0)), 0, true), api.Init, no(api.ErrData, 0, 0, 0))
}

// 8.1: C7, refused deep within: the Path has the numbers from the outermost on.
func TestDeepPath(t *testing.T) {
	for _, path := range [][]int{{0}, {2}, {1, 0}, {0, 2, 1}, {2, 1, 0, 0, 2}, {1, 1, 2, 0, 1, 2, 2, 0}} {
		for _, x := range broken {
			b := bytesOf(second(0, never, 0, x.text))
			cut := b[:17]
			for depth, number := range slices.Backward(path[1:]) {
				laid := depth == len(path)-2
				b = bytesOf(around(b, number, laid))
				cut = bytesOf(around(cut, number, laid))
			}
			c := around(b, path[0], len(path) == 1)
			judged(t, x.text, c, api.Init, no(x.wrong, 1, x.at, path...))
			judged(t, x.text, around(cut, path[0], len(path) == 1), api.Init, no(api.ErrCut, 0, 17, path...))
		}
	}
}

// 8.1: two that are refused at different depths: the one ahead, by its numbers, whatever its depth.
func TestDeepFirst(t *testing.T) {
	bad := bytesOf(of(typed(0, never, 0), "50 fe"))
	deep := bytesOf(around(bytesOf(around(bad, 1, false)), 2, false))
	c := uses(3, []int{0, 1, 2}, nil)
	c.Subs = [][]byte{bytesOf(stuck()), deep, bad}
	bothKinds(t, "deep ahead", c, no(api.ErrUnder, 0, 0, 1, 2, 1))
	c.Subs = [][]byte{bad, deep, bytesOf(stuck())}
	bothKinds(t, "deep behind", c, no(api.ErrUnder, 0, 0, 0))
	// What lies around is asked ahead of what lies within.
	idle := uses(4, []int{0, 1, 2}, nil)
	idle.Subs[0] = deep
	c.Subs = [][]byte{bytesOf(idle), deep, bad}
	bothKinds(t, "around", c, no(api.ErrIdle, 0, 0, 0, 3))
}

// 8.1, R1: some thousand nested in one another, taken, and refused in the innermost.
func TestVeryDeep(t *testing.T) {
	const depth = 3000
	for _, x := range []struct {
		text string
		want api.Reject
	}{
		{"fe", api.Reject{}},
		{"5b 0c", no(api.ErrOpcode, 0, 1, make([]int, depth)...)},
	} {
		b := bytesOf(of(typed(0, never, 0), x.text))
		for range depth {
			b = bytesOf(with(of(typed(0, never, 4), "5f 5f 5f 5f ec 00 fe"), b))
		}
		code, no := valid.Validate(b, api.Runtime)
		if !alike(no, x.want) || (code != nil) != (x.want.Code == api.OK) {
			t.Errorf("%s: %v, %d at %d in %d, of %d", x.text, code != nil, no.Code, no.At, no.Section, len(no.Path))
		}
		c, _ := container.Parse(b, false)
		if again := valid.Judge(c, api.Init); !alike(again, x.want) {
			t.Errorf("%s: Judge: %d at %d in %d, of %d", x.text, again.Code, again.At, again.Section, len(again.Path))
		}
	}
}
