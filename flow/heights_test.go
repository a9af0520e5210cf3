package flow_test

import (
	"slices"
	"testing"

	"vouch/api"
	"vouch/flow"
)

// formed are the instructions of a code with immediate bytes of many kinds; of a jump with the distance 0.
func formed(code int) [][]byte {
	switch code {
	case 0xe0, 0xe1:
		return [][]byte{jump(byte(code), 0)}
	case 0xe2:
		return [][]byte{jump(0xe2, 0), jump(0xe2, 0, 0), jump(0xe2, make([]int, 256)...)}
	case 0xe6, 0xe7, 0xe8, 0xec, 0xee:
		var all [][]byte
		for x := range 256 {
			all = append(all, []byte{byte(code), byte(x)})
		}
		return all
	}
	return [][]byte{append([]byte{byte(code)}, make([]byte, immediate(code, 0))...)}
}

// 7.2, 7.3: each instruction with just the words that it takes, with one more, and with one fewer.
func TestTakesAndLeaves(t *testing.T) {
	for code := range 256 {
		if plain[code] == nil && (code < 0xe6 || code > 0xe8) {
			continue
		}
		for _, i := range formed(code) {
			p := piece{code: code, imm: i[1:]}
			takes, leaves := modelNeeds(one(), 0, p)
			for more := range 3 {
				b := slices.Concat(push(takes+more), i, raw("00"))
				if last(code) && code != 0xe0 {
					b = b[:len(b)-1]
				}
				told, wrong, at := flow.Heights(one(), 0, b)
				n := takes + more
				if wrong != api.OK || at != 0 || len(told) <= n || told[n] != (api.Height{At: n, Lo: n, Hi: n}) {
					t.Fatalf("% x at %d words: %v, %d, %d", i, n, told, wrong, at)
				}
				if !last(code) && told[n+1] != (api.Height{At: n + len(i), Lo: leaves + more, Hi: leaves + more}) {
					t.Fatalf("% x at %d words: %v", i, n, told)
				}
				held(t, one(), 0, b)
			}
			if takes > 0 {
				refused(t, one(), 0, slices.Concat(push(takes-1), i, raw("00")), api.ErrUnder, takes-1)
				refused(t, typed(0, never, 0), 0, slices.Concat(wide(takes-1, takes+2), i, raw("00")), api.ErrUnder, takes+6)
			}
		}
	}
}

// 7.2, 7.3: the words that a section takes are there at its first instruction.
func TestInIsThere(t *testing.T) {
	for _, in := range []int{0, 1, 2, 16, 126, 127} {
		taken(t, typed(in, never, 0), 0, raw("5f 00"), 0, in, in, 1, in+1, in+1)
		refused(t, typed(in, never, 0), 0, slices.Concat(slices.Repeat(raw("50"), in+1), raw("00")), api.ErrUnder, in)
		taken(t, typed(in, in, 0), 0, raw("e4"), 0, in, in)
	}
}

// 7.3, clause 1: behind each instruction that ends nothing is reached; nor where only what stands further behind leads.
func TestDead(t *testing.T) {
	types := typed(0, 0, 0, 0, never, 0)
	for code := range 256 {
		if !there(code) {
			continue
		}
		i := leading(code)
		for _, behind := range []string{"00", "5b 00", "50 00", "5f e0 fffc", "e4"} {
			b := slices.Concat(push(8), i, raw(behind))
			if code == 0xe4 {
				b = slices.Concat(i, raw(behind))
			}
			_, wrong, at := flow.Heights(types, 0, b)
			if isDead := wrong == api.ErrDead && at == len(b)-len(raw(behind)); isDead != last(code) {
				t.Errorf("behind %02x: %d, %d", code, wrong, at)
			}
			held(t, types, 0, b)
		}
	}
	refused(t, one(), 0, raw("e0 0001 00 00"), api.ErrDead, 3)
	refused(t, one(), 0, raw("e0 0001 00 e0 fffc"), api.ErrDead, 3)
	refused(t, one(), 0, raw("e0 0003 e0 0004 5f e1 fff9 00"), api.ErrDead, 3)
	refused(t, one(), 0, raw("e0 fffd 00"), api.ErrDead, 3)
	refused(t, one(), 0, raw("5f e2 00 0001 00 00 00"), api.ErrDead, 7)
	taken(t, one(), 0, raw("5f e2 00 0001 00 00"), 0, 0, 0, 1, 1, 1, 5, 0, 0, 6, 0, 0)
}

// leading is an instruction of the code: RJUMP to its own place, the other jumps on, JUMPF to section 1.
func leading(code int) []byte {
	switch code {
	case 0xe0:
		return raw("e0 fffd")
	case 0xe5:
		return raw("e5 0001")
	}
	return formed(code)[0]
}

// 7.3: which clause comes first, where several are so.
func TestFirstClause(t *testing.T) {
	types := typed(0, 5, 0, 3, 4, 1023, 3, never, 1023, 0, 5, 1023)
	for _, x := range []struct {
		why   string
		b     []byte
		wrong api.Errno
		at    int
	}{
		{"dead, and too few words", raw("00 50 00"), api.ErrDead, 1},
		{"dead, and no return", raw("00 e4"), api.ErrDead, 1},
		{"dead, and a jump back", raw("5f 00 e0 fffc"), api.ErrDead, 2},
		{"too few at CALLF, too many within", slices.Concat(wide(2, 9), raw("e3 0001 00")), api.ErrUnder, 13},
		{"too few at JUMPF, too many within", slices.Concat(wide(2, 9), raw("e5 0002")), api.ErrUnder, 13},
		{"too few at JUMPF, and another height than is due", slices.Concat(wide(2, 2), raw("e5 0001")), api.ErrUnder, 6},
		{"too many at JUMPF, and another height than is due", slices.Concat(push(9), raw("e5 0001")), api.ErrOver, 9},
		{"too many at JUMPF, the hi alone not due", slices.Concat(wide(4, 5), raw("e5 0001")), api.ErrOver, 9},
		{"too few at RJUMPI, and a jump back to other heights", raw("5b e1 fffc 00"), api.ErrUnder, 1},
		{"too few at RETF is another height than is due", raw("e4"), api.ErrReturn, 0},
		{"too few at RETF of a hull", slices.Concat(wide(3, 5), raw("e4")), api.ErrReturn, 9},
	} {
		t.Run(x.why, func(t *testing.T) { refused(t, types, 0, x.b, x.wrong, x.at) })
	}
	// The first instruction of which one is so is told, whatever the clause.
	for _, x := range []struct {
		text  string
		wrong api.Errno
		at    int
	}{
		{"5f 50 50 00 00", api.ErrUnder, 2},
		{"5f e0 fffc 00", api.ErrLoop, 1},
		{"5f e4 00 50", api.ErrArg, 0},
		{"5f e4 50 00", api.ErrReturn, 1},
		{"00 5f e0 fffc", api.ErrDead, 1},
		{"5f 5f e1 fffb 50 50 00", api.ErrLoop, 2},
		{"5f 5f 50 50 50 e1 fff8 00", api.ErrUnder, 4},
	} {
		refused(t, types, 0, raw(x.text), x.wrong, x.at)
	}
}

// 7.3, clause 3: each instruction whose height behind it is MaxMost, and one above.
func TestMostHeight(t *testing.T) {
	for code := range 256 {
		if !there(code) || last(code) || code == 0xe3 {
			continue
		}
		for _, i := range formed(code)[:1] {
			p := piece{code: code, imm: i[1:]}
			takes, leaves := modelNeeds(one(), 0, p)
			n := api.MaxMost + takes - leaves
			if n <= api.MaxMost {
				b := slices.Concat(push(n), i, raw("00"))
				if told, wrong, _ := flow.Heights(one(), 0, b); wrong != api.OK || flow.Most(told) != api.MaxMost {
					t.Errorf("% x at %d words: %d", i, n, wrong)
				}
				held(t, one(), 0, b)
			}
			if n < api.MaxMost {
				refused(t, one(), 0, slices.Concat(push(n+1), i, raw("00")), api.ErrOver, n+1)
				// By the greatest of several heights.
				b := slices.Concat(wide(n-3, n+1), i, raw("00"))
				refused(t, one(), 0, b, api.ErrOver, n+5)
				held(t, one(), 0, slices.Concat(wide(n-3, n), i, raw("00")))
			}
		}
	}
	told, wrong, _ := flow.Heights(typed(127, never, 0), 0, slices.Concat(push(896), raw("00")))
	if wrong != api.OK || flow.Most(told) != 1023 {
		t.Error(wrong, flow.Most(told))
	}
	refused(t, typed(127, never, 0), 0, slices.Concat(push(897), raw("00")), api.ErrOver, 896)
	refused(t, one(), 0, slices.Concat(push(1022), raw("e6 ff e6 ff 00")), api.ErrOver, 1024)
}

// 7.3, clause 3: CALLF and JUMPF at MaxStack, CALLF at MaxMost too; and one above each.
func TestOverOfSections(t *testing.T) {
	for _, in := range []int{0, 1, 127} {
		for _, out := range []int{0, 1, 127} {
			for _, most := range []int{127, 128, 500, 1022, 1023} {
				types := typed(0, never, 0, in, out, most, in, never, most)
				room := api.MaxStack - most + in
				behind := api.MaxMost - out + in
				for _, hi := range []int{room - 1, room, room + 1, behind - 1, behind, behind + 1} {
					if hi < in || hi > api.MaxMost {
						continue
					}
					call, leave := slices.Concat(push(hi), raw("e3 0001 00")), slices.Concat(push(hi), raw("e5 0002"))
					if hi > room || hi > behind {
						refused(t, types, 0, call, api.ErrOver, hi)
					} else {
						held(t, types, 0, call)
						if told, wrong, _ := flow.Heights(types, 0, call); wrong != api.OK || told[hi+1].Hi != hi-in+out {
							t.Errorf("%v: CALLF at %d: %d", types, hi, wrong)
						}
					}
					if hi > room {
						refused(t, types, 0, leave, api.ErrOver, hi)
					} else if _, wrong, _ := flow.Heights(types, 0, leave); wrong != api.OK {
						t.Errorf("%v: JUMPF at %d: %d", types, hi, wrong)
					}
				}
			}
		}
	}
}

// 7.3, clause 3: a hull's hi counts, its lo does not.
func TestOverOfHulls(t *testing.T) {
	types := typed(0, never, 0, 2, 3, 1020, 2, never, 1020)
	for hi := 2; hi < 12; hi++ {
		for lo := 2; lo <= hi; lo++ {
			b := wide(lo, hi)
			call, leave := slices.Concat(b, raw("e3 0001 00")), slices.Concat(b, raw("e5 0002"))
			if hi > 6 {
				refused(t, types, 0, call, api.ErrOver, len(b))
				refused(t, types, 0, leave, api.ErrOver, len(b))
				continue
			}
			told, wrong, at := flow.Heights(types, 0, call)
			if wrong != api.OK || at != 0 || told[len(told)-1] != (api.Height{At: len(b) + 3, Lo: lo + 1, Hi: hi + 1}) {
				t.Errorf("% x: %v, %d, %d", call, told, wrong, at)
			}
			told, wrong, at = flow.Heights(types, 0, leave)
			if wrong != api.OK || at != 0 || told[len(told)-1] != (api.Height{At: len(b), Lo: lo, Hi: hi}) {
				t.Errorf("% x: %v, %d, %d", leave, told, wrong, at)
			}
		}
	}
}

// 7.3, clause 4: RETF with each height, and with each hull.
func TestReturn(t *testing.T) {
	for _, out := range []int{0, 1, 3, 7} {
		for lo := range 10 {
			for hi := lo; hi < 10; hi++ {
				b := slices.Concat(wide(lo, hi), raw("e4"))
				types := typed(0, out, 9)
				if lo == out && hi == out {
					held(t, types, 0, b)
					if _, wrong, at := flow.Heights(types, 0, b); wrong != api.OK || at != 0 {
						t.Errorf("%d to %d for %d: %d, %d", lo, hi, out, wrong, at)
					}
				} else {
					refused(t, types, 0, b, api.ErrReturn, len(b)-1)
				}
			}
		}
	}
	// At the bounds of Out and above what may be told as a type's.
	for _, out := range []int{126, 127} {
		held(t, typed(0, out, 0), 0, slices.Concat(push(out), raw("e4")))
		refused(t, typed(0, out, 0), 0, slices.Concat(push(out-1), raw("e4")), api.ErrReturn, out-1)
		refused(t, typed(0, out, 0), 0, slices.Concat(push(out+1), raw("e4")), api.ErrReturn, out+1)
	}
	refused(t, typed(0, 3, 0), 0, slices.Concat(push(1023), raw("e4")), api.ErrReturn, 1023)
}

// 7.3, clause 4: JUMPF to a section that returns, with each height and each hull; to one that does not, with any that suffices.
func TestJumpFReturns(t *testing.T) {
	for _, own := range []int{0, 1, 4, 6} {
		for out := range own + 1 {
			for in := range 4 {
				for lo := in; lo < 10; lo++ {
					for hi := lo; hi < 10; hi++ {
						types := typed(0, own, 9, in, out, 9, in, never, 9)
						b := slices.Concat(wide(lo, hi), raw("e5 0001"))
						if due := own - out + in; lo != due || hi != due {
							refused(t, types, 0, b, api.ErrReturn, len(b)-3)
						} else if _, wrong, at := flow.Heights(types, 0, b); wrong != api.OK || at != 0 {
							t.Errorf("%d to %d, own %d, out %d, in %d: %d, %d", lo, hi, own, out, in, wrong, at)
						}
						held(t, types, 0, slices.Concat(wide(lo, hi), raw("e5 0002")))
						if _, wrong, at := flow.Heights(types, 0, slices.Concat(wide(lo, hi), raw("e5 0002"))); wrong != api.OK || at != 0 {
							t.Errorf("%d to %d, in %d: %d, %d", lo, hi, in, wrong, at)
						}
					}
				}
			}
		}
	}
}

// 7.2, 7.3: CALLF of sections that take and give back each number of words.
func TestCallF(t *testing.T) {
	for _, in := range []int{0, 1, 2, 5} {
		for _, out := range []int{0, 1, 2, 5, 127} {
			types := typed(0, never, 9, in, out, 9)
			for h := range 8 {
				b := slices.Concat(push(h), raw("e3 0001 00"))
				if h < in {
					refused(t, types, 0, b, api.ErrUnder, h)
					continue
				}
				told, wrong, at := flow.Heights(types, 0, b)
				if wrong != api.OK || at != 0 || told[h+1] != (api.Height{At: h + 3, Lo: h - in + out, Hi: h - in + out}) {
					t.Errorf("%v at %d: %v, %d, %d", types, h, told, wrong, at)
				}
			}
			// By the least of several heights.
			if in > 0 {
				refused(t, types, 0, slices.Concat(wide(in-1, in+1), raw("e3 0001 00")), api.ErrUnder, in+5)
			}
		}
	}
	// A section that calls itself has its own type.
	taken(t, typed(1, 2, 3), 0, raw("e3 0000 50 e3 0000 e4"), 0, 1, 1, 3, 2, 2, 4, 1, 1, 7, 2, 2)
}

// 7.3, clause 5: hulls of two and of more ways, in each order.
func TestHulls(t *testing.T) {
	// The one behind comes with the greater height, with the lesser one, with one between.
	taken(t, one(), 0, raw("5f e1 0001 5f 00"), 0, 0, 0, 1, 1, 1, 4, 0, 0, 5, 0, 1)
	taken(t, one(), 0, raw("5f 5f e1 0001 50 00"), 0, 0, 0, 1, 1, 1, 2, 2, 2, 5, 1, 1, 6, 0, 1)
	taken(t, one(), 0, raw("5f 5f e1 0005 5f e1 0003 50 5f 5f 00"), 0, 0, 0, 1, 1, 1, 2, 2, 2, 5, 1, 1, 6, 2, 2, 9, 1, 1, 10, 0, 1, 11, 1, 2, 12, 1, 3)
	taken(t, one(), 0, raw("5f 5f 5f 5f e1 0005 50 e1 0001 5b 00"), 0, 0, 0, 1, 1, 1, 2, 2, 2, 3, 3, 3, 4, 4, 4, 7, 3, 3, 8, 2, 2, 11, 1, 1, 12, 1, 3)
	// What a hull passes on keeps both ends, further hulls among it.
	taken(t, one(), 0, raw("5f 5f e1 0001 5f 15 5f e1 0002 50 5f 5b 00"), 0, 0, 0, 1, 1, 1, 2, 2, 2, 5, 1, 1, 6, 1, 2, 7, 1, 2, 8, 2, 3, 11, 1, 2, 12, 0, 1, 13, 1, 2, 14, 1, 2)
	// A table to many places, each with more ways to it.
	for _, n := range []int{1, 2, 3, 100, 256} {
		distances := make([]int, n)
		want := []int{0, 0, 0, 1, 1, 1}
		for i := range distances {
			distances[i] = i
			want = append(want, 3+2*n+i, 0, i)
		}
		want = append(want, 3+3*n, 1, n)
		taken(t, one(), 0, slices.Concat(raw("5f"), jump(0xe2, distances...), push(n), raw("00")), want...)
	}
}

// 7.3, clause 5: jumps back to just the same lo and hi, to another lo, to another hi, to both; a jump to its own place.
func TestLoops(t *testing.T) {
	for _, c := range []byte{0xe1, 0xe2} {
		n := len(jump(c, 0))
		for _, x := range []struct {
			ahead, within []byte // the jump leads back to where within begins
			goes          bool
		}{
			{nil, push(1), true},
			{nil, nil, false},
			{push(1), nil, false},
			{push(2), push(1), true},
			{push(2), push(2), false},
			{push(2), raw("50 5f 5f"), true},
			{push(2), raw("5b"), false},
			{wide(1, 4), push(1), true},
			{wide(1, 4), push(2), false},
			{wide(1, 4), raw("5f 50 5f"), true},
			{wide(1, 4), slices.Concat(push(1), jump(0xe1, 1), push(2)), false},
			{wide(1, 4), slices.Concat(push(1), jump(0xe1, 1), raw("5b"), push(1)), true},
			{push(1), slices.Concat(push(2), jump(0xe1, 1), push(1)), false},            // the lo is the same
			{push(1), slices.Concat(push(3), jump(0xe1, 1), raw("50")), false},          // the hi is the same
			{push(2), slices.Concat(push(2), jump(0xe1, 1), push(1), raw("50")), false}, // neither is
			{wide(1, 2), slices.Concat(push(2), jump(0xe1, 1), push(1)), false},         // the lo is
			{wide(1, 2), slices.Concat(push(3), jump(0xe1, 1), raw("50")), false},       // the hi is
			{wide(1, 2), slices.Concat(push(2), jump(0xe1, 1), push(1), raw("5b")), false},
		} {
			b := slices.Concat(x.ahead, x.within, jump(c, -len(x.within)-n), raw("00"))
			place := len(x.ahead) + len(x.within)
			if len(x.ahead) == 0 && len(x.within) == 0 {
				refused(t, one(), 0, b, api.ErrUnder, 0)
				continue
			}
			if !x.goes {
				refused(t, one(), 0, b, api.ErrLoop, place)
				continue
			}
			if _, wrong, at := flow.Heights(one(), 0, b); wrong != api.OK || at != 0 {
				t.Errorf("% x: %d, %d", b, wrong, at)
			}
			held(t, one(), 0, b)
		}
	}
	// RJUMP passes on just what stands ahead of it.
	taken(t, one(), 0, raw("e0 fffd"), 0, 0, 0)
	taken(t, one(), 0, raw("5f e0 fffd"), 0, 0, 0, 1, 1, 1)
	taken(t, one(), 0, raw("5f 5b e0 fffc"), 0, 0, 0, 1, 1, 1, 2, 1, 1)
	refused(t, one(), 0, raw("5f 5b e0 fffb"), api.ErrLoop, 2)
	taken(t, typed(7, never, 7), 0, raw("e0 fffd"), 0, 7, 7)
}

// 7.3, clause 5: a table with one target behind among many ahead: just that one is told to come to other heights, wherever it stands.
func TestLoopsInTables(t *testing.T) {
	for place := range 256 {
		distances := make([]int, 256)
		distances[place] = -515
		b := slices.Concat(raw("5f"), jump(0xe2, distances...), raw("00"))
		taken(t, one(), 0, b, 0, 0, 0, 1, 1, 1, 515, 0, 0)
		distances[place] = -514
		refused(t, one(), 0, slices.Concat(raw("5f"), jump(0xe2, distances...), raw("00")), api.ErrLoop, 1)
	}
	taken(t, one(), 0, slices.Concat(raw("5f"), jump(0xe2, -7, -7), raw("00")), 0, 0, 0, 1, 1, 1, 7, 0, 0)
	refused(t, one(), 0, slices.Concat(raw("5f"), jump(0xe2, -7, -6), raw("00")), api.ErrLoop, 1)
	refused(t, one(), 0, slices.Concat(raw("5f"), jump(0xe2, -6, -7), raw("00")), api.ErrLoop, 1)
}

// 7.3: what a jump back finds is what stood there when its instruction was gone through; no later way changes it.
func TestLoopsFindWhatStands(t *testing.T) {
	// The loop's head is reached by two ways of unlike heights: what comes back is to be their hull.
	head := raw("5f 5f e1 0001 5f") // 1 to 2 words behind it
	taken(t, one(), 0, slices.Concat(head, raw("5b 5b e0 fffb")), 0, 0, 0, 1, 1, 1, 2, 2, 2, 5, 1, 1, 6, 1, 2, 7, 1, 2, 8, 1, 2)
	refused(t, one(), 0, slices.Concat(head, raw("5b 50 e0 fffb")), api.ErrLoop, 8)
	refused(t, one(), 0, raw("5f 5f e1 0001 5f 5b e0 fffb"), api.ErrLoop, 7)
}

// 7.3: far jumps, ahead and back.
func TestFarJumps(t *testing.T) {
	nops := slices.Repeat([]byte{0x5b}, 32764)
	b := slices.Concat(raw("5f"), nops, raw("e0 8000"))
	if told, wrong, at := flow.Heights(one(), 0, slices.Concat(raw("5b"), nops, raw("e0 8000"))); wrong != api.OK || at != 0 || len(told) != 32766 {
		t.Error(len(told), wrong, at)
	}
	refused(t, one(), 0, b, api.ErrLoop, 32765)
	b = slices.Concat(raw("5f e1 7fff"), slices.Repeat([]byte{0x5b}, 32766), raw("5f 00"))
	told, wrong, at := flow.Heights(one(), 0, b)
	if wrong != api.OK || at != 0 || told[len(told)-1] != (api.Height{At: 32771, Lo: 0, Hi: 1}) {
		t.Error(wrong, at)
	}
}
