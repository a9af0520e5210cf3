package fast_test

import (
	"bytes"
	"slices"
	"testing"

	"vouch/api"
)

// lays is code that lays the topmost word into memory, so many times, from place 0 on, and takes back with that; it needs no word below.
func lays(words int) []byte {
	var b []byte
	for i := range words {
		b = append(b, 0x61, byte(32*i>>8), byte(32*i), 0x52)
	}
	return append(b, 0x59, 0x5f, 0xfd)
}

// told is how a bare run of the code ends: it takes back with memory.
func told(t *testing.T, code ...[]byte) []byte {
	t.Helper()
	r := of(code...).gas(1 << 20).bare(t)
	r.Go(many)
	end, _ := r.Ended()
	if end.Kind != api.EndRevert {
		t.Fatalf("%x: %+v", code, end)
	}
	return end.Output
}

// words are words as bytes.
func words(l ...uint64) []byte {
	var b []byte
	for _, x := range l {
		b = append(b, wordBytes(n(x))...)
	}
	return b
}

// 13.7, Stacks: below nothing: Height goes below 0, what was never put is 0, and what was put below nothing is there.
func TestBareBelowNothing(t *testing.T) {
	r := of(pops(3), raw("6007 6008 50 01 80 e6ff 90")).bare(t)
	for i, height := range []int{0, -1, -2, -3, -2, -1, -2, -3, -2, -1, -1} {
		if s := r.Sight(); s.Height != height {
			t.Errorf("behind %d steps: %+v", i, s)
		}
		r.Go(1)
	}
	for _, x := range []struct {
		code []byte
		want []byte
	}{
		{slices.Concat(pops(1), raw("6007"), lays(1)), words(7)},
		{slices.Concat(pops(2), raw("6007 6008"), lays(2)), words(8, 7)},
		{slices.Concat(pops(5), raw("6007 6008 01"), lays(1)), words(15)},
		{slices.Concat(raw("6001 6002"), pops(3), raw("80"), lays(1)), words(0)},                          // word number -2, which is 0
		{slices.Concat(raw("6001 6002"), pops(2), raw("5b 5b"), raw("6009 50 50 50"), lays(1)), words(0)}, // the words number -1
		{slices.Concat(raw("90 80"), lays(1)), words(0)},
		{slices.Concat(raw("6001 90"), lays(2)), words(0, 1)},               // SWAP1 with word number -1
		{slices.Concat(raw("6001 8f"), lays(2)), words(0, 1)},               // DUP16 of one below
		{slices.Concat(raw("6001 e6 ff"), lays(2)), words(0, 1)},            // DUPN, 256 down
		{slices.Concat(raw("6001 e7 ff"), lays(1)), words(0)},               // SWAPN with the 257th
		{slices.Concat(raw("6001 e7 ff e7 ff"), lays(1)), words(1)},         // and back
		{slices.Concat(raw("6001 e8 00"), lays(3)), words(1, 0, 0)},         // EXCHANGE of two below
		{slices.Concat(raw("6001 6002 e8 0f"), lays(2)), words(2, 0)},       // the 2nd with the 18th
		{slices.Concat(raw("6001 6002 e8 0f e8 0f"), lays(2)), words(2, 1)}, // and back
	} {
		if got := told(t, x.code); !bytes.Equal(got, x.want) {
			t.Errorf("%x: %x, not %x", x.code, got, x.want)
		}
	}
}

// 13.7, Stacks: above MaxStack words the first ones are gone, and Height goes on.
func TestBareAboveTheMost(t *testing.T) {
	r := of(zeros(1030)).bare(t)
	for i := range 1030 {
		if s := r.Sight(); s.Height != i || s.State != api.Going {
			t.Fatalf("behind %d steps: %+v", i, s)
		}
		r.Go(1)
	}
	rising := func(count int) []byte {
		var b []byte
		for i := range count {
			b = append(b, 0x61, byte((i+1)>>8), byte(i+1))
		}
		return b
	}
	// of 1025 words the first one is gone: the 1025th down is the topmost again
	if got := told(t, rising(1025), pops(1024), lays(1)); !bytes.Equal(got, words(1025)) {
		t.Errorf("%x", got)
	}
	if got := told(t, rising(1025), pops(1023), lays(2)); !bytes.Equal(got, words(2, 1025)) {
		t.Errorf("%x", got)
	}
	if got := told(t, rising(1024), pops(1023), lays(1)); !bytes.Equal(got, words(1)) {
		t.Errorf("%x", got)
	}
	// what 1024 words below nothing stand is what stands above it
	if got := told(t, raw("6007"), pops(1024), raw("5b"), lays(0)); len(got) != 0 {
		t.Errorf("%x", got)
	}
	if got := told(t, raw("6007"), pops(1024), lays(1)); !bytes.Equal(got, words(7)) {
		t.Errorf("%x", got)
	}
}

// 13.7, Stacks: HaltRoom goes by Len, below 0 and above MaxStack too.
func TestBareRoom(t *testing.T) {
	for _, x := range []struct {
		ahead    []byte
		height   int
		in, most int
		halts    bool
	}{
		{zeros(1), 1, 0, 1023, false}, {zeros(2), 2, 0, 1023, true}, {zeros(3), 3, 1, 1023, true}, {zeros(2), 2, 1, 1023, false},
		{zeros(1024), 1024, 0, 0, false}, {zeros(1025), 1025, 0, 0, true}, {zeros(1025), 1025, 1, 0, false}, {zeros(1026), 1026, 1, 0, true},
		{zeros(1151), 1151, 127, 0, false}, {zeros(1152), 1152, 127, 0, true},
		{pops(1), -1, 0, 1023, false}, {pops(5), -5, 127, 1023, false}, {pops(5), -5, 0, 0, false}, {nil, 0, 127, 1023, false},
	} {
		for _, code := range []string{"e3 0001 00", "e5 0001 00"} {
			f := of(x.ahead, raw(code)).section(api.Type{In: x.in, Out: x.in, Most: x.most}, raw("00"))
			cost := uint64(2*len(x.ahead) + 5)
			if x.halts {
				f.bares(t, len(x.ahead)+1, api.Place{At: len(x.ahead)}, halted(api.HaltRoom))
				continue
			}
			r := f.bare(t)
			r.Go(len(x.ahead) + 1)
			if s := r.Sight(); s.Height != x.height || s.Section != 1 {
				t.Errorf("%v: %+v", f, s)
			}
			f.bares(t, len(x.ahead)+2, api.Place{Section: 1}, stopped(10000-cost))
		}
	}
}

// downward is code of section 0 that returns so often, each time to its own beginning (memory says that it was begun), and goes to section 1 then.
func downward(times int) []byte {
	begin := slices.Concat(raw("59 e1 0024"), pushed(n(uint64(times))), raw("5f 5f 53"))
	return slices.Concat(begin, raw("80 e1 0004 50 e5 0001 6001 90 03 e4"))
}

// 13.7, Stacks: HaltReturns goes by Len: behind so many RETFs of nothing so many more places may be put.
func TestBareReturns(t *testing.T) {
	for _, below := range []int{0, 1, 2, 5, 1023, 1024, 1025, 3000} {
		r := of(downward(below)).section(api.Type{Out: never}, raw("e3 0001")).gas(1 << 20).bare(t)
		least, most, calls := 0, 0, 0
		for r.State() == api.Going {
			was := r.Sight().Returns
			r.Go(1)
			if s := r.Sight(); s.State == api.Going {
				least, most = min(least, s.Returns), max(most, s.Returns)
				if s.Returns > was {
					calls++
				}
			}
		}
		if end, _ := r.Ended(); !alikeEnds(end, halted(api.HaltReturns)) || least != -below || most != 1024 || calls != 1024+below {
			t.Errorf("%d: %+v, %d to %d places, %d calls", below, end, least, most, calls)
		}
	}
}

// 13.7, Sections: RETF with nothing on the return stack goes where Take says: to section 0, place 0, or to a place that lay there 1024 places ago.
func TestBareReturnsToWhatLayThere(t *testing.T) {
	coded("5b e4").ways(t, places(0, 1, 0, 1, 0)...)
	x := coded("e5 0001").section(api.Type{}, raw("5b e4"))
	x.ways(t, api.Place{}, api.Place{Section: 1}, api.Place{Section: 1, At: 1}, api.Place{}, api.Place{Section: 1})
	// once section 1 calls section 2, which returns; from then on all returns are of nothing, 1024 at most
	begin := slices.Concat(raw("59 e1 0027"), pushed(n(1024)), raw("5f 5f 53 e5 0001"))
	y := of(begin, raw("80 e1 0002 50 00 6001 90 03 e4")).section(api.Type{Out: never}, raw("5b e3 0002 e4")).section(api.Type{}, raw("e4"))
	r := y.gas(1 << 20).bare(t)
	var behind []int // Returns, each time that it stands behind the CALLF
	for r.State() == api.Going {
		if s := r.Sight(); s.Section == 1 && s.At == 4 {
			behind = append(behind, s.Returns)
		}
		r.Go(1)
	}
	if !slices.Equal(behind, []int{0, -1024}) {
		t.Errorf("%v, %+v", behind, r.Sight())
	}
}

// 13.7, Sections: a section that is not there is the one whose number is what is left of the named one.
func TestBareSectionsRound(t *testing.T) {
	for _, count := range []int{1, 2, 3, 7, 256, 1000, 1024} {
		for _, named := range []int{0, 1, count - 1, count, count + 1, 3*count - 1, 1023, 1024, 40000, 65535} {
			for _, code := range []byte{0xe3, 0xe5} {
				x := of([]byte{code, byte(named >> 8), byte(named)}).gas(8)
				for range count - 1 {
					x.section(api.Type{Out: never}, raw("fe"))
				}
				r := x.bare(t)
				r.Go(1)
				want := api.Sight{Section: named % count, Left: 3}
				if code == 0xe3 {
					want.Returns = 1
				}
				if s := r.Sight(); s != want {
					t.Errorf("%d of %d: %+v, not %+v", named, count, s, want)
				}
			}
		}
	}
	// by its own type: what it takes, and how many words it has at most
	x := of(zeros(2), raw("e5 0004")).section(api.Type{Out: never, Most: 1023}, raw("00")).section(api.Type{Out: never}, raw("00"))
	x.bares(t, 3, api.Place{At: 2}, halted(api.HaltRoom))
	x.c.Codes[0][4] = 5
	x.bares(t, 4, api.Place{Section: 2}, stopped(10000-9))
}

// 13.7, Sections: CALLF goes to sections that never return, too, and comes back from them, if they do return.
func TestBareCallsWhatNeverReturns(t *testing.T) {
	coded("e3 0001 fe").section(api.Type{Out: never}, raw("00")).bares(t, 2, api.Place{Section: 1}, stopped(9995))
	coded("e3 0001 00").section(api.Type{Out: never}, raw("e4")).bares(t, 3, api.Place{At: 3}, stopped(9992))
	coded("e3 0000 00").gas(12).bares(t, 3, api.Place{}, halted(api.HaltGas))
	coded("e5 0001").section(api.Type{Out: 5}, raw("00")).bares(t, 2, api.Place{Section: 1}, stopped(9995))
}
