package valid_test

import (
	"fmt"
	"math"
	"slices"
	"strings"
	"testing"

	"vouch/api"
	"vouch/op"
)

// bothKinds: what is said of both kinds.
func bothKinds(t *testing.T, what string, c api.Container, want api.Reject) {
	t.Helper()
	for _, kind := range kinds {
		judged(t, what, c, kind, want)
	}
}

// second is a container whose first section only leads to this one, which has this type.
func second(in, out, most int, text string) api.Container {
	lead, height := "e3 0001 fe", max(in, out)
	if out == never {
		lead, height = "e5 0001", in
	}
	return of(typed(0, never, height, in, out, most), pushes(in)+lead, text)
}

// pushes is the code that puts so many words on the stack.
func pushes(words int) string { return strings.Repeat("5f", words) }

// 8.1: kinds that are neither, ahead of all that is wrong with a container.
func TestNoKind(t *testing.T) {
	for _, kind := range []int{math.MinInt, -1, 0, 3, 4, 255, 256 + api.Init, math.MaxInt} {
		for _, c := range []api.Container{stop(), stuck(), {}, of(typed(0, 0, 0), "00"), of(typed(0, never, 0), "50 00"), of(typed(0, never, 0), "0c")} {
			judged(t, "no kind", c, kind, no(api.ErrArg, 0, 0))
		}
	}
}

// 8.1: what may be no container's is refused with what chapter 5's Check says, at no place, ahead of every clause.
func TestMayNotBe(t *testing.T) {
	many := of(nil)
	for range api.MaxSections {
		many.Types, many.Codes = append(many.Types, typed(0, never, 0)...), append(many.Codes, raw("fe"))
	}
	tooMany := copied(many)
	tooMany.Types, tooMany.Codes = append(tooMany.Types, typed(0, never, 0)...), append(tooMany.Codes, raw("fe"))
	long := stuck()
	long.Codes[0] = slices.Repeat([]byte{0xfe}, api.MaxSection+1)
	tooManySubs := with(of(typed(0, never, 0), "0c"), slices.Repeat([][]byte{{0}}, api.MaxSubs+1)...)
	for _, x := range []struct {
		what string
		c    api.Container
		want api.Errno
	}{
		{"no section", api.Container{}, api.ErrCodes},
		{"a section too many", tooMany, api.ErrCodes},
		{"a type too few", of(nil, "0c"), api.ErrTypes},
		{"a type too many", of(typed(0, never, 0, 0, never, 0), "0c"), api.ErrTypes},
		{"no byte", of(typed(0, never, 0), ""), api.ErrNone},
		{"no byte behind a broken section", of(typed(0, never, 0, 0, never, 0), "0c", ""), api.ErrNone},
		{"a byte too many", long, api.ErrLong},
		{"a nested one too many", tooManySubs, api.ErrSubs},
		{"no nested byte", with(of(typed(0, never, 0), "0c"), nil), api.ErrNone},
		{"data too long", declared(of(typed(0, never, 0), "0c"), 65536, 0), api.ErrLong},
		{"more data than declared", declared(of(typed(0, never, 0), "0c"), 1, 2), api.ErrArg},
		{"Size below 0", declared(of(typed(0, never, 0), "0c"), -1, 0), api.ErrArg},
		{"section 0 takes", of(typed(1, never, 1), "0c"), api.ErrType},
		{"section 0 returns", of(typed(0, 0, 0), "0c"), api.ErrType},
		{"In", of(typed(0, never, 0, 128, 0, 0), "0c", "e4"), api.ErrType},
		{"Out", of(typed(0, never, 0, 0, 129, 0), "0c", "e4"), api.ErrType},
		{"Most", of(typed(0, never, 1024), "0c"), api.ErrType},
		{"below 0", of(typed(0, never, -1), "0c"), api.ErrType},
	} {
		bothKinds(t, x.what, x.c, no(x.want, 0, 0))
	}
	bothKinds(t, "as many sections as may be", many, no(api.ErrApart, 1, 0))
}

// 8.1: C1, byte by byte.
func TestInstructions(t *testing.T) {
	for code := range 256 {
		if _, ok := op.Of(code); !ok {
			text := fmt.Sprintf("%02x", code)
			bothKinds(t, text, of(typed(0, never, 0), text), no(api.ErrOpcode, 0, 0))
			bothKinds(t, text, of(typed(0, never, 0), "5b 5f 50 "+text+" fe"), no(api.ErrOpcode, 0, 3))
			bothKinds(t, text, second(0, never, 0, "61 0c0c "+text), no(api.ErrOpcode, 1, 3))
		}
	}
	for _, text := range []string{"60", "61 07", "7f" + "00000000000000000000000000000000000000000000000000000000000000", "d1 00", "e0 00", "e1", "e2", "e2 01 0000 00", "e3 00", "e5", "e6", "e7", "e8", "ec", "ee"} {
		bothKinds(t, text, of(typed(0, never, 0), text), no(api.ErrImm, 0, 0))
		bothKinds(t, text, of(typed(0, never, 0), "5b 5b "+text), no(api.ErrImm, 0, 2))
		bothKinds(t, text, second(0, 0, 0, "5b"+text), no(api.ErrImm, 1, 1))
	}
	for _, text := range []string{"5f", "50", "60 fe", "e1 0000", "e2 00 0000", "e3 0000", "ec 00"} {
		bothKinds(t, text, of(typed(0, never, 0), text), no(api.ErrOpen, 0, 0))
		bothKinds(t, text, of(typed(0, never, 0), "fe fe "+text), no(api.ErrOpen, 0, 2))
		bothKinds(t, text, second(0, never, 0, "fe"+text), no(api.ErrOpen, 1, 1))
	}
}

// 8.1: C2, what each kind bars.
func TestBarred(t *testing.T) {
	judged(t, "STOP", stop(), api.Runtime, api.Reject{})
	judged(t, "STOP", stop(), api.Init, no(api.ErrBarred, 0, 0))
	judged(t, "RETURN", of(typed(0, never, 2), "5f 5f f3"), api.Runtime, api.Reject{})
	judged(t, "RETURN", of(typed(0, never, 2), "5f 5f f3"), api.Init, no(api.ErrBarred, 0, 2))
	lays := with(of(typed(0, never, 2), "5f 5f ee 00"), bytesOf(stop()))
	judged(t, "RETURNCODE", lays, api.Init, api.Reject{})
	judged(t, "RETURNCODE", lays, api.Runtime, no(api.ErrBarred, 0, 2))
	bothKinds(t, "INVALID", stuck(), api.Reject{})
	bothKinds(t, "REVERT", of(typed(0, never, 2), "5f 5f fd"), api.Reject{})
	judged(t, "in another section", second(0, never, 2, "5f 5f f3"), api.Init, no(api.ErrBarred, 1, 2))
	judged(t, "in another section", second(0, 0, 0, "5f e1 0001 00 e4"), api.Init, no(api.ErrBarred, 1, 4))
	judged(t, "in another section", with(second(0, never, 2, "5f 5f ee 00"), bytesOf(stop())), api.Runtime, no(api.ErrBarred, 1, 2))
}

// 8.1: C2, where jumps lead.
func TestTargets(t *testing.T) {
	for _, x := range []struct {
		text string
		most int
		want api.Reject
	}{
		{"e0 0000 fe", 0, api.Reject{}},
		{"e0 fffd", 0, api.Reject{}},
		{"e0 0000", 0, no(api.ErrTarget, 0, 0)},
		{"e0 fffc", 0, no(api.ErrTarget, 0, 0)},
		{"e0 fffe", 0, no(api.ErrTarget, 0, 0)},
		{"e0 8000", 0, no(api.ErrTarget, 0, 0)},
		{"e0 7fff", 0, no(api.ErrTarget, 0, 0)},
		{"5f e1 0001 5b fe", 1, api.Reject{}},
		{"5f e1 0002 5b fe", 1, no(api.ErrTarget, 0, 1)},
		{"5f e1 0001 60 fe fe", 1, no(api.ErrTarget, 0, 1)},
		{"5f e1 fffe 5b fe", 1, no(api.ErrTarget, 0, 1)},
		{"5f e1 fffb 5b fe", 1, no(api.ErrTarget, 0, 1)},
		{"5f e2 00 0000 fe", 1, api.Reject{}},
		{"5f e2 01 0000 0001 5b fe", 1, api.Reject{}},
		{"5f e2 01 0001 0002 5b fe", 1, no(api.ErrTarget, 0, 1)},
		{"5f e2 01 0002 0001 5b fe", 1, no(api.ErrTarget, 0, 1)},
		{"5f e2 01 0001 fffe 5b fe", 1, no(api.ErrTarget, 0, 1)},
	} {
		bothKinds(t, x.text, of(typed(0, never, x.most), x.text), x.want)
		// Each section has places of its own.
		if x.want.Code != api.OK {
			x.want.Section = 1
		}
		bothKinds(t, x.text, second(0, never, x.most, x.text), x.want)
	}
}

// 8.1: C2, the sections that CALLF and JUMPF name, and RETF.
func TestSections(t *testing.T) {
	bothKinds(t, "CALLF of none", of(typed(0, never, 0), "e3 0001 fe"), no(api.ErrSection, 0, 0))
	bothKinds(t, "CALLF of none", of(typed(0, never, 0), "5b e3 ffff fe"), no(api.ErrSection, 0, 1))
	bothKinds(t, "JUMPF to none", of(typed(0, never, 0), "5b 5b e5 0001"), no(api.ErrSection, 0, 2))
	bothKinds(t, "JUMPF to none", second(0, 0, 0, "e5 0002"), no(api.ErrSection, 1, 0))
	bothKinds(t, "CALLF of itself", of(typed(0, never, 0), "e3 0000 fe"), no(api.ErrNever, 0, 0))
	bothKinds(t, "CALLF of one that never returns", of(typed(0, never, 0, 0, never, 0), "5b e3 0001 fe", "fe"), no(api.ErrNever, 0, 1))
	bothKinds(t, "CALLF of the first", second(0, 0, 0, "e3 0000 e4"), no(api.ErrNever, 1, 0))
	bothKinds(t, "CALLF of itself, which returns", second(0, 0, 0, "e3 0001 e4"), api.Reject{})
	bothKinds(t, "JUMPF to itself", of(typed(0, never, 0), "e5 0000"), api.Reject{})
	bothKinds(t, "JUMPF to one that returns", of(typed(0, never, 0, 0, 0, 0), "5b e5 0001", "e4"), no(api.ErrNever, 0, 1))
	bothKinds(t, "JUMPF to one that never returns", of(typed(0, never, 0, 0, never, 0), "5b e5 0001", "fe"), api.Reject{})
	bothKinds(t, "RETF", of(typed(0, never, 0), "5b e4"), no(api.ErrNever, 0, 1))
	bothKinds(t, "RETF", second(0, never, 0, "e4"), no(api.ErrNever, 1, 0))
	bothKinds(t, "RETF where it may", second(0, 0, 0, "e4"), api.Reject{})
	bothKinds(t, "JUMPF where RETF would do", second(0, 0, 0, "5f e1 0001 e4 e5 0000"), no(api.ErrMost, 1, 0))
	bothKinds(t, "JUMPF where RETF would do", second(0, 0, 1, "5f e1 0001 e4 e5 0000"), api.Reject{})
	for out := range 4 {
		for to := range 4 {
			want := api.Reject{}
			if to > out {
				want = no(api.ErrOuts, 1, 0)
			}
			rest := max(0, out-to)
			types := typed(0, never, out, 0, out, rest, 0, to, to)
			bothKinds(t, fmt.Sprint(out, to), of(types, "e3 0001 fe", pushes(rest)+"e5 0002", pushes(to)+"e4"), want)
		}
	}
}

// 8.1: C2, DATALOADN's bytes lie within the declared length, however many are at hand.
func TestDataLoad(t *testing.T) {
	for _, size := range []int{0, 1, 31, 32, 33, 63, 64, 255, 256, 257, 288, 300, 1000, 65534, 65535} {
		for _, at := range []int{0, 1, 2, size - 33, size - 32, size - 31, size - 1, size, 255, 256, 65503, 65504, 65535} {
			if at < 0 || at > 65535 {
				continue
			}
			want := api.Reject{}
			if at+32 > size {
				want = no(api.ErrData, 0, 1)
			}
			text := fmt.Sprintf("5b d1 %04x fe", at)
			for _, there := range []int{0, size / 2, size} {
				bothKinds(t, fmt.Sprint(text, size, there), declared(of(typed(0, never, 1), text), size, there), want)
			}
		}
	}
}

// 8.1: C2, the nested containers that EOFCREATE and RETURNCODE name.
func TestNamedSubs(t *testing.T) {
	bothKinds(t, "EOFCREATE", of(typed(0, never, 4), "5f 5f 5f 5f ec 00 fe"), no(api.ErrSub, 0, 4))
	judged(t, "RETURNCODE", of(typed(0, never, 2), "5f 5f ee 00"), api.Init, no(api.ErrSub, 0, 2))
	makes := with(of(typed(0, never, 4), "5f 5f 5f 5f ec 00 fe"), bytesOf(stuck()))
	bothKinds(t, "EOFCREATE", makes, api.Reject{})
	for _, number := range []string{"01", "02", "80", "ff"} {
		bothKinds(t, "EOFCREATE "+number, with(of(typed(0, never, 4), "5f 5f 5f 5f ec "+number+" fe"), bytesOf(stuck())), no(api.ErrSub, 0, 4))
		judged(t, "RETURNCODE "+number, with(second(0, never, 2, "5f 5f ee "+number), bytesOf(stuck())), api.Init, no(api.ErrSub, 1, 2))
	}
}

// 8.1: C3, what chapter 7 says, at its places.
func TestHeights(t *testing.T) {
	for _, x := range []struct {
		in, out, most int
		text          string
		wrong         api.Errno
		at            int
	}{
		{0, never, 0, "fe fe", api.ErrDead, 1},
		{0, never, 0, "e0 0001 5b fe", api.ErrDead, 3},
		{0, never, 0, "5b 50 fe", api.ErrUnder, 1},
		{2, 1, 2, "08 e4", api.ErrUnder, 0},
		{0, 0, 0, "5b e3 0001 5f 50 50 e4", api.ErrUnder, 6},
		{1, 2, 1, "e4", api.ErrReturn, 0},
		{1, 0, 1, "5b e4", api.ErrReturn, 1},
		{0, 1, 1, "5f 5f e1 0001 5f e4", api.ErrReturn, 6},
		{0, never, 1, "5f e0 fffc", api.ErrLoop, 1},
		{1, never, 3, "5f 5f e1 fffb fe", api.ErrLoop, 2},
		{1, 1, 2, "e4", api.ErrMost, 0},
		{1, 1, 0, "e4", api.ErrMost, 0},
		{1, 1, 1023, "5f 50 e4", api.ErrMost, 0},
		{0, never, 0, "5f fe", api.ErrMost, 0},
		{0, 0, 0, "fe", api.ErrFlag, 0},
		{0, 2, 1, "5b 5f fe", api.ErrFlag, 0},
		{1, 1, 2, "5f 5f 5f fd", api.ErrMost, 0},
		{1, 1, 3, "5f 5f fd", api.ErrFlag, 0},
		{0, 1, 0, "e5 0000", api.ErrFlag, 0},
		{0, 0, 0, "e0 fffd", api.ErrFlag, 0},
		{0, never, 0, "e0 fffd", api.OK, 0},
		{0, 0, 0, "e5 0001", api.OK, 0},
		{1, 1, 2, "5f e1 0001 e4 fe", api.OK, 0},
	} {
		want := api.Reject{}
		if x.wrong != api.OK {
			want = no(x.wrong, 1, x.at)
		}
		bothKinds(t, x.text, second(x.in, x.out, x.most, x.text), want)
	}
}

// 8.1: C3, the most words that there may be, and one more.
func TestHighest(t *testing.T) {
	high := func(words, most int, behind string) api.Container {
		c := of(typed(0, never, most), behind)
		c.Codes[0] = slices.Concat(slices.Repeat([]byte{0x5f}, words), c.Codes[0])
		return c
	}
	bothKinds(t, "1023 words", high(1023, 1023, "fe"), api.Reject{})
	bothKinds(t, "1024 words", high(1024, 1023, "fe"), no(api.ErrOver, 0, 1023))
	bothKinds(t, "1022 declared", high(1023, 1022, "fe"), no(api.ErrMost, 0, 0))
	for words := range 4 {
		c := high(words, words, "e3 0001 fe")
		c.Types, c.Codes = append(c.Types, typed(0, 0, 1022)...), append(c.Codes, slices.Concat(slices.Repeat([]byte{0x5f}, 1022), slices.Repeat([]byte{0x50}, 1022), raw("e4")))
		want := api.Reject{}
		if words > 2 {
			want = no(api.ErrOver, 0, 3)
		}
		bothKinds(t, "CALLF", c, want)
	}
}
