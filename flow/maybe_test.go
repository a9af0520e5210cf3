package flow_test

import (
	"math"
	"slices"
	"testing"

	"vouch/api"
	"vouch/flow"
)

// 7.1: section is the number of one of the types.
func TestSectionNumber(t *testing.T) {
	for n := range 4 {
		types := slices.Repeat(one(), n)
		for section := range n {
			taken(t, types, section, raw("00"), 0, 0, 0)
		}
		for _, section := range []int{-1, -2, -n - 1, n, n + 1, math.MinInt, math.MaxInt, math.MinInt32, 1 << 32} {
			refused(t, types, section, raw("00"), api.ErrArg, 0)
		}
	}
	refused(t, nil, 0, raw("00"), api.ErrArg, 0)
	// It is that one's type which holds.
	types := typed(3, never, 9, 4, never, 9, 5, never, 9)
	for section := range types {
		taken(t, types, section, raw("00"), 0, 3+section, 3+section)
	}
}

// edges of a bound from 0 on: those within it, and those outside of it.
func edges(greatest int) (within, outside []int) {
	return []int{0, 1, greatest - 1, greatest}, []int{-1, -2, math.MinInt, greatest + 1, greatest + 2, 256 + greatest, 1<<32 + greatest, math.MaxInt}
}

// 7.1: In, Out and Most of each type, the section's own, one that b names and one that it does not, at their bounds and beside them.
func TestTypesInBounds(t *testing.T) {
	base := typed(0, never, 3, 0, 1, 4, 1, 2, 5)
	fields := []struct {
		field    func(t *api.Type) *int
		greatest int
	}{
		{func(t *api.Type) *int { return &t.In }, 127},
		{func(t *api.Type) *int { return &t.Out }, 128},
		{func(t *api.Type) *int { return &t.Most }, 1023},
	}
	for section, text := range []string{"e3 0001 00", "5f e4", "e4"} {
		for which := range base {
			for _, f := range fields {
				within, outside := edges(f.greatest)
				for _, value := range within {
					types := slices.Clone(base)
					*f.field(&types[which]) = value
					held(t, types, section, raw(text))
					taken(t, types[which:], 0, raw("00"), 0, types[which].In, types[which].In)
				}
				for _, value := range outside {
					types := slices.Clone(base)
					*f.field(&types[which]) = value
					refused(t, types, section, raw(text), api.ErrArg, 0)
					refused(t, types, section, raw("00"), api.ErrArg, 0)
				}
			}
		}
	}
}

// 7.1: how many types there are is not bounded here; the last one of many is asked too.
func TestManyTypes(t *testing.T) {
	for _, n := range []int{1024, 1025, 65535, 65536, 70000} {
		types := append(slices.Repeat(typed(0, 0, 0), n-1), api.Type{In: 0, Out: never})
		taken(t, types, n-1, raw("00"), 0, 0, 0)
		types[n-1].Most = 1024
		refused(t, types, 0, raw("00"), api.ErrArg, 0)
	}
}

// 7.1: each part of C1, also behind what nothing reaches.
func TestInstructionsBroken(t *testing.T) {
	for _, text := range []string{
		"", "0c", "5f 0c 00", "00 0c", "00 ef", "5f 56", // no instruction
		"60", "5f 61 00", "00 7f 00", "e0", "e0 00", "00 e1 ff", "e2", "e2 00", "e2 00 00", "e2 01 00 00 00", "e3 00", "e5", "e6", "ec", "ee", // cut
		"5f", "5b", "00 5b", "60 00", "e1 00 00", "e2 00 00 00", "00 00 01", "5f 50", // open
	} {
		refused(t, one(), 0, raw(text), api.ErrArg, 0)
		refused(t, typed(0, 0, 0), 0, raw(text), api.ErrArg, 0)
	}
	refused(t, one(), 0, nil, api.ErrArg, 0)
}

// 7.1: every byte, alone and behind others: as the model's table says.
func TestEveryByte(t *testing.T) {
	for c := range 256 {
		for _, front := range []string{"", "5f", "5f 5f 5f 5f 5f", "00"} {
			for _, back := range []string{"", "00", "00 00", "00 00 00", "00 00 00 00"} {
				b := slices.Concat(raw(front), []byte{byte(c)}, raw(back))
				held(t, one(), 0, b)
				held(t, typed(2, 1, 3, 0, never, 0), 0, b)
			}
		}
	}
}

// 7.1: each jump to each place near it: one where an instruction begins, within one (its own too), the end, below 0.
func TestJumpsAstray(t *testing.T) {
	for _, c := range []byte{0xe0, 0xe1, 0xe2} {
		n := len(jump(c, 0))
		for distance := -30; distance <= 30; distance++ {
			b := slices.Concat(raw("5f 60 00 5b 5b 61 00 00"), jump(c, distance), raw("62 00 00 00 5f 60 00 00"))
			begins := []int{0, 1, 3, 4, 5, 8, 8 + n, 12 + n, 13 + n, 15 + n}
			_, wrong, at := flow.Heights(one(), 0, b)
			if astray := !slices.Contains(begins, 8+n+distance); astray != (wrong == api.ErrArg) || astray && at != 0 {
				t.Errorf("%02x by %d: %d, %d", c, distance, wrong, at)
			}
			held(t, one(), 0, b)
		}
		for _, distance := range []int{-32768, -257, -256, 255, 256, 32767} {
			refused(t, one(), 0, slices.Concat(raw("5f"), jump(c, distance), raw("00")), api.ErrArg, 0)
		}
		// Behind what nothing reaches, and ahead of it.
		refused(t, one(), 0, slices.Concat(raw("00"), jump(c, 1), raw("00")), api.ErrArg, 0)
		refused(t, one(), 0, slices.Concat(raw("5f"), jump(c, 9), raw("00 50 00")), api.ErrArg, 0)
	}
	for place := range 256 {
		distances := make([]int, 256)
		distances[place] = 1
		refused(t, one(), 0, slices.Concat(raw("5f"), jump(0xe2, distances...), raw("00")), api.ErrArg, 0)
	}
	taken(t, one(), 0, slices.Concat(raw("5f"), jump(0xe2, make([]int, 256)...), raw("00")), 0, 0, 0, 1, 1, 1, 515, 0, 0)
}

// 7.1: CALLF and JUMPF of sections that are there, and of those that are not.
func TestSectionsThere(t *testing.T) {
	for _, n := range []int{1, 2, 3, 256, 257, 300, 65535, 65536, 65537} {
		types := slices.Repeat(typed(0, 0, 0), n)
		for _, s := range []int{0, 1, 2, n - 2, n - 1, n, n + 1, 255, 256, 65534, 65535} {
			if s < 0 || s > 65535 {
				continue
			}
			name := []byte{byte(s >> 8), byte(s)}
			call, leave := slices.Concat([]byte{0xe3}, name, raw("e4")), slices.Concat([]byte{0xe5}, name)
			if s < n {
				taken(t, types, 0, call, 0, 0, 0, 3, 0, 0)
				taken(t, types, 0, leave, 0, 0, 0)
			} else {
				refused(t, types, 0, call, api.ErrArg, 0)
				refused(t, types, 0, leave, api.ErrArg, 0)
				refused(t, types, 0, slices.Concat(raw("e4"), leave), api.ErrArg, 0)
			}
		}
	}
}

// 7.1: CALLF names a section that returns; RETF stands in one that does.
func TestCallsReturn(t *testing.T) {
	types := typed(0, never, 0, 0, 0, 0, 0, 127, 127, 0, never, 0)
	for section := range types {
		for s := range types {
			b := []byte{0xe3, 0, byte(s), 0xfe}
			if s == 0 || s == 3 {
				refused(t, types, section, b, api.ErrArg, 0)
				refused(t, types, section, slices.Concat(raw("fe"), b), api.ErrArg, 0)
			} else {
				taken(t, types, section, b, 0, 0, 0, 3, types[s].Out, types[s].Out)
			}
		}
	}
	for _, section := range []int{0, 3} {
		for _, text := range []string{"e4", "00 e4", "5f e4", "e4 00", "50 e4"} {
			refused(t, types, section, raw(text), api.ErrArg, 0)
		}
	}
	taken(t, types, 1, raw("e4"), 0, 0, 0)
	refused(t, types, 1, raw("00 e4"), api.ErrDead, 1)
	refused(t, types, 2, raw("e4"), api.ErrReturn, 0)
}

// 7.1: JUMPF of every Out in a section of every Out.
func TestJumpFOuts(t *testing.T) {
	outs := []int{0, 1, 2, 63, 126, 127, never}
	for _, own := range outs {
		for _, out := range outs {
			types := typed(0, never, 0, 0, own, 9, 0, out, 9)
			b := slices.Concat(push(3), raw("e5 0002"))
			_, wrong, _ := flow.Heights(types, 1, b)
			if astray := out != never && (own == never || out > own); astray != (wrong == api.ErrArg) {
				t.Errorf("JUMPF of %d in %d: %d", out, own, wrong)
			}
			held(t, types, 1, b)
			// To itself it may jump always.
			if _, wrong, _ := flow.Heights(types, 1, raw("e5 0001")); wrong != api.OK {
				t.Errorf("JUMPF to itself in %d: %d", own, wrong)
			}
		}
	}
	// Behind what nothing reaches too.
	refused(t, typed(0, never, 0, 0, 0, 0), 0, raw("00 e5 0001"), api.ErrArg, 0)
	refused(t, typed(0, 0, 0, 0, 1, 0), 0, raw("e4 e5 0001"), api.ErrArg, 0)
	refused(t, typed(0, 1, 0, 0, 1, 0), 0, raw("00 e5 0001"), api.ErrDead, 1)
}

// 7.1: what else C2 says is not asked here: what a kind bars, the data, nested containers.
func TestNotAskedHere(t *testing.T) {
	for _, x := range []struct {
		text string
		want []int
	}{
		{"00", []int{0, 0, 0}},
		{"5f 5f f3", []int{0, 0, 0, 1, 1, 1, 2, 2, 2}},
		{"5f 5f ee ff", []int{0, 0, 0, 1, 1, 1, 2, 2, 2}},
		{"d1 ffff 00", []int{0, 0, 0, 3, 1, 1}},
		{"d1 0001 00", []int{0, 0, 0, 3, 1, 1}},
		{"5f 5f 5f 5f ec ff 00", []int{0, 0, 0, 1, 1, 1, 2, 2, 2, 3, 3, 3, 4, 4, 4, 6, 1, 1}},
	} {
		taken(t, one(), 0, raw(x.text), x.want...)
	}
	// Neither the section's Most, nor whether it returns: C3 asks these of what is told.
	taken(t, typed(0, 5, 1000), 0, raw("5f 00"), 0, 0, 0, 1, 1, 1)
	taken(t, typed(9, never, 0), 0, raw("00"), 0, 9, 9)
}

// 7.1, R2: what may not be is told ahead of all that the pass finds.
func TestMayNotBeComesFirst(t *testing.T) {
	for _, front := range []string{"00 00", "50", "5f e0 fffc", "5f 50 50", "fe 5b"} {
		for _, back := range []string{"", "0c", "5f", "60", "e0 0001", "e4 00", "e3 0001 00", "e3 0000 00", "e5 0001"} {
			if back == "" && front != "50" && front != "5f 50 50" && front != "fe 5b" {
				continue
			}
			refused(t, one(), 0, raw(front+back), api.ErrArg, 0)
		}
	}
}

// 7.1: no bound is set to how long b is: jumps and names behind the place MaxText are what they are anywhere.
func TestLongSection(t *testing.T) {
	unit := slices.Concat([]byte{0x7f}, make([]byte, 32), []byte{0x50})
	ahead := slices.Repeat(unit, api.MaxText/len(unit)+1)
	types := typed(0, never, 0, 2, 1, 5, 0, never, 7)
	for _, x := range []struct {
		text    string
		section int
		wrong   api.Errno
		at      int
	}{
		{"00", 0, api.OK, 0},
		{"00 00", 0, api.ErrDead, 1},
		{"e0 0000 00", 0, api.OK, 0},
		{"e0 0001 5b 00", 0, api.ErrDead, 3},
		{"e0 0001 00", 0, api.ErrArg, 0},
		{"5f e2 00 0001 00", 0, api.ErrArg, 0},
		{"5f e1 fffe 00", 0, api.ErrArg, 0},
		{"5f e1 fffd 00", 0, api.ErrLoop, 1},
		{"5f e1 fffc 00", 0, api.OK, 0},
		{"e0 ffdb", 0, api.OK, 0},
		{"5f 5f e3 0001 00", 0, api.OK, 0},
		{"5f e3 0001 00", 0, api.ErrUnder, 1},
		{"e3 0003 00", 0, api.ErrArg, 0},
		{"e5 0002", 0, api.OK, 0},
		{"e5 0003", 0, api.ErrArg, 0},
		{"e5 0001", 0, api.ErrArg, 0},
		{"50 e4", 1, api.OK, 0},
		{"e4", 1, api.ErrReturn, 0},
		{"e5 0001", 1, api.OK, 0},
	} {
		place := 0
		if x.wrong != api.OK && x.wrong != api.ErrArg {
			place = len(ahead) + x.at
		}
		told, wrong, at := flow.Heights(types, x.section, slices.Concat(ahead, raw(x.text)))
		if wrong != x.wrong || at != place || (wrong == api.OK) != (len(told) > 2*len(ahead)/len(unit)) {
			t.Errorf("%s in %d: %d heights, %d, %d", x.text, x.section, len(told), wrong, at-len(ahead))
		}
		if want := x.text == "50 e4" || x.text == "e4" || x.text == "e5 0001"; flow.Returns(types, slices.Concat(ahead, raw(x.text))) != want {
			t.Errorf("Returns behind MaxText, %s", x.text)
		}
	}
}
