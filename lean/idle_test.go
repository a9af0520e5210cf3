package lean_test

import (
	"testing"

	"vouch/api"
	"vouch/lean"
	"vouch/op"
)

// becomes holds that a section of a container with no other one is turned into this, with the height that it has.
func becomes(t testing.TB, text, want string) {
	t.Helper()
	turns(t, fit(raw(text)), fit(raw(want)))
}

// remains holds that a section is lean.
func remains(t testing.TB, text string) {
	t.Helper()
	stays(t, fit(raw(text)))
}

// 20.1: a NOP is idle wherever it stands: first, between, many, where jumps lead, ahead of each kind of end.
func TestNop(t *testing.T) {
	becomes(t, "5b 00", "00")
	becomes(t, "5b 5b 5b 00", "00")
	becomes(t, "36 5b 50 5b 00", "36 50 00")
	becomes(t, "36 e1 0002 5b 5b fe", "36 e1 0000 fe")
	becomes(t, "36 e1 0001 00 5b fe", "36 e1 0001 00 fe")
	becomes(t, "36 e1 0001 00 5b 5b fe", "36 e1 0001 00 fe")
	becomes(t, "36 e2 01 0001 0002 00 5b 5b fe", "36 e2 01 0001 0001 00 fe")
	becomes(t, "36 36 5b fd", "36 36 fd")
	becomes(t, "36 36 5b f3", "36 36 f3")
	becomes(t, "5b 36 50 e0 fffb", "36 50 e0 fffb") // a way back to what stands behind it
	becomes(t, "5b 36 50 e0 fffa", "36 50 e0 fffb") // and to itself
	remains(t, "60 5b 35 50 00")                    // a byte within another instruction is none
	remains(t, "36 e1 0000 00")
}

// 20.1: an RJUMP to the next instruction is idle, whatever leads to it and whatever stands there; one to anywhere else is not for that.
func TestNextJump(t *testing.T) {
	becomes(t, "e0 0000 00", "00")
	becomes(t, "e0 0000 e0 0000 e0 0000 00", "00")
	becomes(t, "36 e0 0000 50 00", "36 50 00")
	becomes(t, "36 e1 0001 00 e0 0000 fe", "36 e1 0001 00 fe")
	becomes(t, "e0 0000 36 50 e0 fffb", "36 50 e0 fffb")
	becomes(t, "e0 0000 36 50 e0 fff8", "36 50 e0 fffb")
	becomes(t, "36 e1 0003 e0 0000 00", "36 e1 0000 00")
	becomes(t, "36 e0 0000 e1 0000 00", "36 e1 0000 00")
	remains(t, "36 e1 0003 e0 0001 00 fe")         // one place further on
	remains(t, "36 e1 0000 36 e2 01 0000 0000 00") // other jumps to the next one
	remains(t, "36 50 e0 fffb")                    // a way back
}

// 20.1: each instruction that leaves a word and does nothing else is idle, if a POP stands behind it.
func TestPairs(t *testing.T) {
	for size := 0; size <= 32; size++ {
		push := append([]byte{0x5f + byte(size)}, times("50", size)...)
		turns(t, fit(push, raw("50 00")), one(0, "00"))
		turns(t, fit(push, raw("15 50 00")), fit(push, raw("15 50 00")))
	}
	for n := range 16 {
		dup := []byte{0x80 + byte(n)}
		below := times("36", n+1)
		turns(t, fit(below, dup, raw("50 00")), fit(below, raw("00")))
		stays(t, fit(below, dup, raw("15 50 00")))
		stays(t, fit(below, raw("36"), []byte{0x90 + byte(n)}, raw("50 00"))) // a SWAP is not
	}
	for n := range 256 {
		dup := []byte{0xe6, byte(n)}
		below := times("36", n+1)
		turns(t, fit(below, dup, raw("50 00")), fit(below, raw("00")))
		stays(t, fit(below, dup, raw("19 50 00")))
		stays(t, fit(below, raw("36"), []byte{0xe7, byte(n)}, raw("50 00")))
	}
	stays(t, fit(raw("36 36 36 e8 00 50 00")))
}

// 20.1: no other instruction that leaves a word is idle for a POP behind it.
func TestNoPairs(t *testing.T) {
	for _, text := range []string{"30", "32", "33", "34", "36", "3a", "3d", "41", "42", "43", "44", "45", "46", "47", "48", "4a", "59", "d2"} {
		remains(t, text+" 50 00")
	}
	for _, text := range []string{"15", "19", "1e", "31", "35", "40", "49", "51", "54", "5c", "d0", "f7"} {
		remains(t, "36 "+text+" 50 00")
	}
	for _, text := range []string{"01", "0a", "10", "16", "20"} {
		remains(t, "36 36 "+text+" 50 00")
	}
	remains(t, "36 36 50 50 00") // a POP behind a POP
	remains(t, "36 36 36 f9 50 00")
	data := fit(raw("d1 0000 50 00"))
	data.Size, data.Data, data.Types[0].Most = 32, make([]byte, 32), 1
	stays(t, data)
	stays(t, high(of(typed(0, 0, 1, 0), "e3 0001 50 00", "36 e4"))) // what a section gives back
	stays(t, high(of(typed(0, 1, 0, 0), "36 e3 0001 00", "50 e4"))) // what it takes
	stays(t, high(of(typed(0, 1, 0, 0), "5f e3 0001 00", "50 e4")))
	stays(t, high(with(of(typed(0), "36 36 36 36 ec 00 50 00"), stuck())))
}

// needsWords: does an instruction need nothing but words (no data, no section, no jump), and go on?
func needsWords(row api.Op) bool {
	return !row.Ends && row.Code != 0xd1 && row.Code>>4 != 0xe
}

// 20.1: of all instructions that need nothing but words PUSHes and DUPs alone are idle with a POP behind them, and NOP, which is idle anyhow.
func TestNoOtherPairs(t *testing.T) {
	others := 0
	for row := range op.All() {
		if !needsWords(row) || row.Code == 0x5b {
			continue
		}
		b := join(times("36", row.In+1), []byte{byte(row.Code)}, make([]byte, row.Imm))
		idle := 0x5f <= row.Code && row.Code <= 0x8f
		if c := fit(b, raw("50 00")); lean.Is(c, api.Runtime) == idle {
			t.Errorf("%s with a POP behind it: idle is not %v", row.Name, idle)
		}
		if !idle {
			stays(t, fit(b, raw("50 00")))
			others++
		}
	}
	if others < 60 {
		t.Errorf("%d others", others)
	}
}

// 20.1: pairs within pairs, and with what is idle between.
func TestPairsWithin(t *testing.T) {
	becomes(t, "5f 5f 50 50 00", "00")
	becomes(t, "5f 6001 80 50 5f 50 50 50 00", "00")
	becomes(t, "36 80 81 82 50 50 50 50 00", "36 50 00")
	becomes(t, "5f 5b 50 00", "00")
	becomes(t, "5f e0 0000 50 00", "00")
	becomes(t, "36 e1 0004 5f e0 0003 e0 0001 50 00", "36 e1 0000 00") // an RJUMP to the POP, over one that goes
	turns(t, fit(times("5f", 1023), times("50", 1023), raw("00")), one(0, "00"))
	remains(t, "36 5f 5f 01 50 50 00")
	remains(t, "36 5f 90 50 50 00")
}

// 20.1: a push is not idle, if a jump leads to the POP behind it: by each kind of jump, from ahead and from behind.
func TestJumpToPop(t *testing.T) {
	remains(t, "36 36 e1 0002 50 5f 50 00")
	remains(t, "36 36 e1 0003 50 6001 50 00")
	remains(t, "36 36 36 e1 0002 50 80 50 50 00")
	remains(t, "36 36 36 e1 0003 50 e6 00 50 50 00")
	remains(t, "36 36 e2 00 0002 50 5f 50 00")
	remains(t, "36 36 e2 02 0000 0002 0000 50 5f 50 00")
	remains(t, "36 36 e2 02 0000 0000 0002 50 5f 50 00")
	remains(t, "36 e1 0004 36 e0 0001 5f 50 00")
	remains(t, "5f 50 36 36 e1 fffa 50 00")
}

// 20.1: it is idle, if jumps lead to the push itself: they lead on to what stands behind the POP.
func TestJumpToPush(t *testing.T) {
	becomes(t, "36 e1 0000 5f 50 00", "36 e1 0000 00")
	becomes(t, "36 e1 0001 fe 5f 50 00", "36 e1 0001 fe 00")
	becomes(t, "5f 50 36 e1 fffa 00", "36 e1 fffc 00")
	becomes(t, "36 e2 01 0000 0002 5f 50 00", "36 e2 01 0000 0000 00")
	becomes(t, "36 e1 0001 fe 5f 5b 5f 50 50 5b 00", "36 e1 0001 fe 00")
}

// 20.1: a jump to an RJUMP is idle: one of an RJUMP, of an RJUMPI, of each distance of an RJUMPV; from ahead and from behind. An RJUMP that something runs into stays.
func TestJumpToJump(t *testing.T) {
	becomes(t, "36 e1 0004 36 e1 0003 e0 0001 fe 00", "36 e1 0008 36 e1 0003 e0 0001 fe 00")
	becomes(t, "36 e1 0007 36 e1 0008 e0 0006 36 50 e0 fff8 fe 00", "36 e1 0007 36 e1 0008 e0 0006 36 50 e0 0001 fe 00")
	becomes(t, "36 e2 02 0004 0008 0004 36 e1 0003 e0 0001 fe 00", "36 e2 02 0008 0008 0008 36 e1 0003 e0 0001 fe 00")
	becomes(t, "36 e2 02 0004 0000 0000 36 e1 0003 e0 0001 fe 00", "36 e2 02 0008 0000 0000 36 e1 0003 e0 0001 fe 00")
	becomes(t, "36 e2 02 0000 0000 0004 36 e1 0003 e0 0001 fe 00", "36 e2 02 0000 0000 0008 36 e1 0003 e0 0001 fe 00")
	becomes(t, "36 e1 0003 e0 0005 36 e1 fff9 fe 00", "36 e1 0003 e0 0005 36 e1 0001 fe 00")
}

// 20.1, 20.3: RJUMPs that lead to each other in a row; those that nothing runs into go.
func TestRowsOfJumps(t *testing.T) {
	becomes(t, "36 e1 0001 fe e0 0000 e0 0000 e0 0000 00", "36 e1 0001 fe 00")
	becomes(t, "36 e1 0005 36 e1 0004 fe e0 0003 e0 0003 e0 fffa 00", "36 e1 0005 36 e1 0001 fe 00")
}

// 20.1: a jump to an RJUMP that leads to itself is not idle, by whatever jump.
func TestJumpToItself(t *testing.T) {
	remains(t, "e0 fffd")
	remains(t, "36 50 e0 fffd")
	remains(t, "36 e1 0000 e0 fffd")
	remains(t, "36 e1 0003 e0 0001 fe e0 fffd")
	remains(t, "36 e2 01 0000 0000 e0 fffd")
	remains(t, "36 e2 01 0001 0000 fe e0 fffd")
	remains(t, "36 e1 0003 e0 fffd 36 e1 fff9 fe")
}

// 20.1: what is idle is told of each instruction alone, in sections that have just this one thing; as each kind.
func TestIsOfOne(t *testing.T) {
	for _, x := range []struct {
		text string
		lean bool
	}{
		{"fe", true}, {"5b fe", false}, {"e0 0000 fe", false}, {"5f 50 fe", false}, {"36 80 50 fe", false}, {"36 e6 00 50 fe", false},
		{"36 50 fe", true}, {"e0 fffd", true}, {"36 50 e0 fffb", true},
		{"36 e1 0004 36 e1 0003 e0 0001 fe fe", false}, {"36 e1 0008 36 e1 0003 e0 0001 fe fe", true},
	} {
		for _, kind := range kinds {
			if got := lean.Is(fit(raw(x.text)), kind); got != x.lean {
				t.Errorf("%s as %d: %v", x.text, kind, got)
			}
		}
	}
}
