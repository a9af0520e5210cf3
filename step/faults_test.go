package step_test

import (
	"fmt"
	"slices"
	"testing"

	"vouch/api"
)

// FaultPlace: no byte at the place, in any way that leads to a section's end.
func TestFaultPlace(t *testing.T) {
	coded("5f").ends(t, 2, 1, faulted(api.FaultPlace))
	coded("5b").gas(1).ends(t, 2, 1, faulted(api.FaultPlace))
	coded("6001").ends(t, 2, 2, faulted(api.FaultPlace))
	coded("5f e1 0000").ends(t, 3, 4, faulted(api.FaultPlace))
	// back behind a CALLF with which the section ends
	coded("e3 0001").section(api.Type{}, raw("e4")).ends(t, 3, 3, faulted(api.FaultPlace))
	// answered at a section's end
	r, _ := coded("5f 5f 5f 30 f8").begun(t)
	r.Go(9)
	r.Give(api.Reply{})
	if made := r.Go(9); made != 1 || r.Sight() != (api.Sight{State: api.Ended, At: 5}) {
		t.Errorf("%d steps, %+v", made, r.Sight())
	}
	if got, _ := r.Ended(); !alikeEnds(got, faulted(api.FaultPlace)) {
		t.Errorf("%+v", got)
	}
	long := make([]byte, api.MaxSection)
	for i := range long {
		long[i] = 0x5b
	}
	of(long).gas(1<<20).ends(t, api.MaxSection+1, api.MaxSection, faulted(api.FaultPlace))
}

// FaultOpcode: every byte that is no instruction, and every one that is not one of its kind of containers; no other.
func TestFaultOpcode(t *testing.T) {
	barred := map[int][]int{api.Runtime: {0xee}, api.Init: {0x00, 0xf3}}
	for kind, never := range barred {
		for code := range 256 {
			x := of([]byte{byte(code)}, zero(600))
			x.f.Kind = kind
			r, _ := x.begun(t)
			r.Go(1)
			got, _ := r.Ended()
			_, there := table[code]
			want := !there || slices.Contains(never, code)
			if (got.Why == api.FaultOpcode) != want {
				t.Errorf("%x as %d: %+v", code, kind, got)
			}
			if want {
				x.ends(t, 1, 0, faulted(api.FaultOpcode))
				x.gas(0).ends(t, 1, 0, faulted(api.FaultOpcode))
			}
		}
	}
	// ahead of the immediate bytes, and of the words
	coded("ee").ends(t, 1, 0, faulted(api.FaultOpcode))
	coded("5b 0c").ends(t, 2, 1, faulted(api.FaultOpcode))
	coded("f3").init().ends(t, 1, 0, faulted(api.FaultOpcode))
}

// FaultImm: every instruction with immediate bytes, cut at each of them.
func TestFaultImm(t *testing.T) {
	for code, row := range table {
		size := row.imm
		if size < 0 {
			size = 1 + 2*(2+1)
		}
		if size == 0 {
			continue
		}
		whole := append([]byte{byte(code)}, zero(size)...)
		if row.imm < 0 {
			whole[1] = 2
		}
		for cut := 1; cut < len(whole); cut++ {
			x := of(whole[:cut])
			if row.name == "RETURNCODE" {
				x.init()
			}
			x.ends(t, 1, 0, faulted(api.FaultImm))
			x.gas(0).ends(t, 1, 0, faulted(api.FaultImm))
			// what follows is no byte of it, also where another section stands behind
			x.section(api.Type{}, zero(40)).ends(t, 1, 0, faulted(api.FaultImm))
		}
		r, _ := of(whole).begun(t)
		r.Go(1)
		if got, _ := r.Ended(); got.Why == api.FaultImm {
			t.Errorf("%s, whole: %+v", row.name, got)
		}
	}
	of([]byte{0xe2, 255}, zero(511)).ends(t, 1, 0, faulted(api.FaultImm))
	of([]byte{0xe2, 255}, zero(512)).ends(t, 1, 0, faulted(api.FaultUnder))
}

// FaultUnder and FaultOver go by the immediate bytes of DUPN, SWAPN and EXCHANGE, at every number.
func TestFaultsOfDeepWords(t *testing.T) {
	for imm := range 256 {
		for _, x := range []struct {
			code  byte
			takes int
			over  bool
		}{{0xe6, imm + 1, true}, {0xe7, imm + 2, false}, {0xe8, imm/16 + imm%16 + 3, false}} {
			code := []byte{x.code, byte(imm), 0x00}
			of(zeros(x.takes-1), code).ends(t, x.takes, x.takes-1, faulted(api.FaultUnder))
			of(zeros(x.takes), code).ends(t, x.takes+2, x.takes+2, api.Ending{Kind: api.EndStop, Left: uint64(10000 - 2*x.takes - 3)})
			full := of(zeros(1024), code)
			if x.over {
				full.ends(t, 1025, 1024, faulted(api.FaultOver))
			} else {
				full.ends(t, 1026, 1026, api.Ending{Kind: api.EndStop, Left: 10000 - 2048 - 3})
			}
		}
	}
}

// FaultTarget: a jump leads to where no instruction of the section begins; a jump that is not made is not looked at.
func TestFaultTarget(t *testing.T) {
	bad := faulted(api.FaultTarget)
	for _, code := range []string{
		"e0 0001 00",               // the section's end
		"e0 0002 00",               // behind it
		"e0 7fff 00",               // far behind it
		"e0 8000 00",               // far ahead of it
		"e0 fffc 00",               // one ahead of it
		"e0 ffff 00", "e0 fffe 00", // its own immediate bytes
		"e0 0001 6000 00",  // the immediate byte of another
		"e0 0001 00 0c",    // no instruction
		"e0 0002 00 0c 00", // an instruction, but behind what is none
		"e0 0001 00 60",    // an instruction that is cut
		"e0 0001 e2 05 00", // a table that is cut
	} {
		coded(code).ends(t, 1, 0, bad)
	}
	coded("5f e1 0005 00").ends(t, 3, 4, api.Ending{Kind: api.EndStop, Left: 9994})
	coded("6001 e1 0005 00").ends(t, 2, 2, bad)
	of(pushed(top), raw("e1 0005 00")).ends(t, 2, 33, bad)
	of(pushed(power(255)), raw("e1 0005 00")).ends(t, 2, 33, bad)
	for word, where := range map[uint64]int{0: 0, 1: -1, 2: 0, 3: 1, 4: 0} {
		x := of(pushed(n(word)), raw("e2 03 0000 7777 0000 0001 00 00"))
		if where < 0 {
			x.ends(t, 2, 33, bad)
		} else {
			x.ends(t, 3, 33+10+where, api.Ending{Kind: api.EndStop, Left: 10000 - 3 - 4})
		}
	}
	// in another section, whose places are its own
	x := coded("e3 0001 00 00 00 00").section(api.Type{}, raw("e0 0001 e4"))
	x.endsSo(t, bad)
	x = coded("e3 0001 00").section(api.Type{}, raw("e0 0001 5b e4"))
	x.endsSo(t, api.Ending{Kind: api.EndStop, Left: 10000 - 5 - 2 - 3})
}

// Jumps lead by their distance behind the instruction, ahead and back, as far as there is.
func TestJumps(t *testing.T) {
	ways := func(code string, gas uint64, want ...int) {
		t.Helper()
		r, _ := coded(code).gas(gas).begun(t)
		var got []int
		for r.State() == api.Going && len(got) < 20 {
			got = append(got, r.Sight().At)
			r.Go(1)
		}
		if !slices.Equal(got, want) {
			t.Errorf("%s: %v, not %v", code, got, want)
		}
	}
	ways("e0 0000 00", 99, 0, 3)
	ways("e0 0002 00 00 5b 00", 99, 0, 5, 6)
	ways("5b e0 fffc", 7, 0, 1, 0, 1, 0, 1)
	ways("e0 fffd", 7, 0, 0, 0, 0)
	ways("6002 6001 90 03 80 e1 fff8 00", 99, 0, 2, 4, 5, 6, 7, 2, 4, 5, 6, 7, 10)
	ways("6001 e2 02 0001 0002 0003 5b 5b 5b 00", 99, 0, 2, 12, 13)
	ways("6003 e2 02 0001 0002 0003 5b 5b 5b 00", 99, 0, 2, 10, 11, 12, 13)
	ways("5f e2 00 fffb", 29, 0, 1, 0, 1, 0, 1, 0, 1, 0, 1)
	for _, word := range []api.Word{n(256), n(1 << 32), power(64), {1, 0, 0, 1}, top} {
		of(pushed(word), raw("e2 01 0001 0001 00 fe")).ends(t, 3, 33+6, api.Ending{Kind: api.EndStop, Left: 10000 - 7})
	}
	// a whole table: each of 256 distances
	for _, word := range []int{0, 1, 127, 128, 255} {
		table := []byte{0xe2, 255}
		for i := range 256 {
			table = append(table, byte(i>>8), byte(i))
		}
		x := of(pushed(n(uint64(word))), table, zero(256))
		x.ends(t, 3, 33+2+512+word, api.Ending{Kind: api.EndStop, Left: 10000 - 7})
	}
	// the longest jumps
	far := slices.Concat(raw("e0 7fff"), zero(32767), raw("e0 8000"))
	r, _ := of(far).gas(99).begun(t)
	for i, at := range []int{0, 32770, 5, 5} {
		if s := r.Sight(); s.At != at {
			t.Errorf("%d: %+v, not at %d", i, s, at)
		}
		r.Go(1)
	}
}

// FaultSection: CALLF and JUMPF of a section that is not there, CALLF of one that never returns; JUMPF may go to either, from either.
func TestFaultSection(t *testing.T) {
	stop := api.Ending{Kind: api.EndStop, Left: 9995}
	for _, code := range []string{"e3", "e5"} {
		for _, imm := range []string{"0003", "0004", "0100", "0103", "ffff"} {
			x := coded(code+imm+"00").section(api.Type{}, raw("e4")).section(api.Type{Out: never}, raw("00"))
			x.ends(t, 1, 0, faulted(api.FaultSection))
		}
	}
	two := func(code string) *frame {
		return coded(code).section(api.Type{}, raw("00")).section(api.Type{Out: never}, raw("00"))
	}
	two("e3 0002 00").ends(t, 1, 0, faulted(api.FaultSection))
	two("e3 0000 00").ends(t, 1, 0, faulted(api.FaultSection))
	two("e3 0001 00").endsSo(t, stop)
	two("e5 0001").endsSo(t, stop)
	two("e5 0002").endsSo(t, stop)
	coded("e5 0000").gas(12).endsSo(t, halted(api.HaltGas))
	many := coded("e5 03ff")
	for range 1023 {
		many.section(api.Type{Out: never}, raw("fe"))
	}
	many.c.Codes[1023] = raw("00")
	many.endsSo(t, stop)
	many.c.Codes[0] = raw("e5 0400")
	many.ends(t, 1, 0, faulted(api.FaultSection))
}

// FaultUnder at a CALLF and a JUMPF, by what the section takes; HaltRoom by Most, at the bound and one past it.
func TestRoomAtSections(t *testing.T) {
	for _, code := range []string{"e3 0001 00", "e5 0001 00"} {
		for _, x := range []struct {
			words, in, most int
			want            int
		}{
			{0, 1, 1, api.FaultUnder}, {126, 127, 127, api.FaultUnder}, {2, 3, 1023, api.FaultUnder},
			{1, 1, 1023, 0}, {2, 1, 1023, 0}, {3, 1, 1023, api.HaltRoom}, {1, 0, 1023, 0}, {2, 0, 1023, api.HaltRoom},
			{1024, 0, 0, 0}, {1024, 0, 1, api.HaltRoom}, {1024, 127, 127, 0}, {1024, 127, 128, api.HaltRoom}, {1024, 127, 0, 0},
			{500, 5, 529, 0}, {500, 5, 530, api.HaltRoom},
		} {
			f := of(zeros(x.words), raw(code)).section(api.Type{In: x.in, Out: x.in, Most: x.most}, raw("00"))
			want := api.Ending{Kind: api.EndStop, Left: uint64(10000 - 2*x.words - 5)}
			if x.want > 100 {
				want = faulted(x.want)
			} else if x.want > 0 {
				want = halted(x.want)
			}
			f.endsSo(t, want)
		}
	}
}

// HaltReturns: MaxReturns places there may be, and not one more; JUMPF puts none there.
func TestHaltReturns(t *testing.T) {
	x := coded("e3 0001 00").section(api.Type{}, raw("e3 0001 e4")).gas(1 << 20)
	r, _ := x.begun(t)
	if made := r.Go(1024); made != 1024 || r.Sight().Returns != 1024 || r.State() != api.Going {
		t.Errorf("%d steps, %+v", made, r.Sight())
	}
	if made := r.Go(9); made != 1 {
		t.Errorf("%d steps more", made)
	}
	if got, _ := r.Ended(); !alikeEnds(got, halted(api.HaltReturns)) {
		t.Errorf("%+v", got)
	}
	// down to 1024 places, and all the way back
	x = of(pushed(n(1023)), raw("e3 0001 00")).section(api.Type{In: 1, Out: 1, Most: 3}, raw("80 e1 0001 e4 6001 90 03 e3 0001 e4")).gas(1 << 20)
	r, _ = x.begun(t)
	most := 0
	for r.State() == api.Going {
		r.Go(1)
		most = max(most, r.Sight().Returns)
	}
	if got, _ := r.Ended(); got.Kind != api.EndStop || most != 1024 {
		t.Errorf("%+v, at most %d places", got, most)
	}
	x = coded("e5 0001").section(api.Type{Out: never}, raw("e5 0001")).gas(20000)
	r, _, _ = x.gone(t)
	if got, _ := r.Ended(); !alikeEnds(got, halted(api.HaltGas)) {
		t.Errorf("%+v", got)
	}
}

// RETF goes back to the section and the place behind the last CALLF, from whatever section a JUMPF led to; CALLF and RETF leave the words alone.
func TestReturns(t *testing.T) {
	x := coded("6001 e3 0001 6002 5f 5f fd").
		section(api.Type{}, raw("e3 0002 6003 e5 0003")).
		section(api.Type{}, raw("6004 e4")).
		section(api.Type{}, raw("6005 e4"))
	x.c.Codes[0] = slices.Concat(raw("6001 e3 0001 6002"), dump(5))
	var got []api.Place
	r, _ := x.begun(t)
	for range 9 {
		s := r.Sight()
		got = append(got, api.Place{Section: s.Section, At: s.At})
		r.Go(1)
	}
	want := []api.Place{{}, {At: 2}, {Section: 1}, {Section: 2}, {Section: 2, At: 2}, {Section: 1, At: 3}, {Section: 1, At: 5}, {Section: 3}, {Section: 3, At: 2}}
	if !slices.Equal(got, want) {
		t.Errorf("%v, not %v", got, want)
	}
	if s := r.Sight(); s.Section != 0 || s.At != 5 || s.Returns != 0 || s.Height != 4 {
		t.Errorf("%+v", s)
	}
	// the checked machine does not look at what a section gives back
	odd := coded("e3 0001 00").section(api.Type{Out: 5}, raw("5f 5f e4"))
	odd.ends(t, 5, 3, api.Ending{Kind: api.EndStop, Left: 10000 - 5 - 4 - 3})
}

// FaultReturn: no place to return to, at first and behind a return.
func TestFaultReturn(t *testing.T) {
	coded("5f e4").ends(t, 2, 1, faulted(api.FaultReturn))
	x := coded("e3 0001 e4").section(api.Type{}, raw("e4"))
	x.ends(t, 3, 3, faulted(api.FaultReturn))
	coded("e5 0001").section(api.Type{}, raw("e4")).endsSo(t, faulted(api.FaultReturn))
}

// Faults and halts leave no gas and no output, wherever they are, and what is asked of them is told so in a frame of any kind.
func TestEndsLeaveNothing(t *testing.T) {
	for _, code := range []string{"fe", "0c", "01", "60", "e4", "5b", "d1 0000", "e0 0009", "e3 0009"} {
		for _, kind := range []int{api.Runtime, api.Init} {
			x := coded("6001 5f 53" + code)
			x.f.Kind = kind
			r, _, _ := x.gone(t)
			got, ok := r.Ended()
			if !ok || got.Left != 0 || got.Output != nil || got.Behind != nil || got.Sub != 0 || got.Why == 0 {
				t.Errorf("%s: %+v, %v", code, got, ok)
			}
			if s := fmt.Sprint(r.Sight()); s != fmt.Sprint(api.Sight{State: api.Ended, At: r.Sight().At}) {
				t.Errorf("%s: %s", code, s)
			}
		}
	}
}
