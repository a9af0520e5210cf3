package fast_test

import (
	"bytes"
	"slices"
	"testing"

	"vouch/api"
)

// allMemory is what memory of MaxMemory bytes costs: 131072 words.
const allMemory = 3*131072 + 131072*131072/512

// piece is an instruction that names a piece of memory: its words, of at and n, and what it costs beside the memory, of n bytes.
type piece struct {
	code string
	with func(at, size api.Word) []api.Word
	cost func(size uint64) uint64
}

func pieces() []piece {
	words := func(size uint64) uint64 { return (size + 31) / 32 }
	two := func(at, size api.Word) []api.Word { return []api.Word{at, size} }
	copied := func(at, size api.Word) []api.Word { return []api.Word{at, n(0), size} }
	copies := func(size uint64) uint64 { return 3 + 3*words(size) }
	flat := func(cost uint64) func(uint64) uint64 { return func(uint64) uint64 { return cost } }
	three := func(at, size api.Word) []api.Word { return []api.Word{n(10), at, size} }
	return []piece{
		{"20", two, func(size uint64) uint64 { return 30 + 6*words(size) }},
		{"37", copied, copies}, {"3e", copied, copies}, {"d3", copied, copies}, {"5e", copied, copies},
		{"5e", func(at, size api.Word) []api.Word { return []api.Word{n(0), at, size} }, copies},
		{"a0", two, func(size uint64) uint64 { return 375 + 8*size }},
		{"f3", two, flat(0)}, {"fd", two, flat(0)},
		{"f8", func(at, size api.Word) []api.Word { return []api.Word{n(10), at, size, n(0)} }, flat(2600)},
		{"f9", three, flat(2600)}, {"fb", three, flat(2600)},
		{"ec00", func(at, size api.Word) []api.Word { return []api.Word{n(0), n(0), at, size} }, flat(32006)},
	}
}

// framed is the instruction with a piece, in valid code.
func (x piece) framed(at, size api.Word) *frame {
	f := rich(pushed(x.with(at, size)...), raw(x.code))
	if x.code != "f3" && x.code != "fd" {
		f.c.Codes[0] = append(f.c.Codes[0], 0x00)
	}
	if x.code == "ec00" {
		f.subs(least(0xfe))
	}
	return f.fit()
}

// tried: beside the checked machine it goes alike with so much gas for it; does it go without a halt?
func (x piece) tried(t *testing.T, at, size api.Word, gas uint64) bool {
	t.Helper()
	words := len(x.with(at, size))
	f := x.framed(at, size).gas(min(gas+3*uint64(words), api.MaxGas))
	p := &pair{t: t, what: f, a: f.fast(t), b: f.checked(t)}
	p.step(words + 1)
	p.hold()
	p.holdWorlds()
	end, _ := p.a.Ended()
	if end.Kind == api.EndHalt && end.Why != api.HaltGas {
		t.Errorf("%s of (%x, %x): %+v", x.code, at, size, end)
	}
	return end.Kind != api.EndHalt
}

// 13.2: a piece of memory, and what is paid for n bytes, up to MaxMemory and one byte past it; with just enough gas, and with one too little.
func TestPiecesAtTheirBounds(t *testing.T) {
	t.Parallel()
	for _, x := range pieces() {
		for _, p := range []struct{ at, size, memory uint64 }{
			{0, 1, 3}, {31, 2, 6}, {32*22 - 1, 2, 70}, {api.MaxMemory - 1, 1, allMemory}, {api.MaxMemory - 40, 40, allMemory}, {0, api.MaxMemory, allMemory},
		} {
			cost := x.cost(p.size) + p.memory
			if !x.tried(t, n(p.at), n(p.size), cost) || x.tried(t, n(p.at), n(p.size), cost-1) {
				t.Errorf("%s of (%d, %d) with %d", x.code, p.at, p.size, cost)
			}
		}
		for _, at := range []api.Word{n(0), n(api.MaxMemory + 1), n(1 << 63), power(64), top} {
			if !x.tried(t, at, n(0), x.cost(0)) {
				t.Errorf("%s of no byte at %x", x.code, at)
			}
		}
		for _, p := range [][2]api.Word{
			{n(api.MaxMemory), n(1)}, {n(api.MaxMemory - 1), n(2)}, {n(0), n(api.MaxMemory + 1)}, {n(1), n(api.MaxMemory)},
			{top, n(1)}, {n(1), top}, {top, top}, {less(31), n(32)}, {power(64), n(1)}, {n(1), power(64)}, {n(1<<64 - 1), n(1)}, {n(1), n(1<<64 - 1)}, {n(1 << 32), n(1)},
		} {
			if x.tried(t, p[0], p[1], api.MaxGas) {
				t.Errorf("%s of %x goes", x.code, p)
			}
		}
	}
}

// 13.2: MLOAD, MSTORE and MSTORE8 likewise.
func TestWordsAtTheirBounds(t *testing.T) {
	for code, size := range map[string]uint64{"51": 32, "52": 32, "53": 1} {
		x := piece{code: code, with: func(at, _ api.Word) []api.Word { return []api.Word{at, n(0x1234)} }}
		if !x.tried(t, n(api.MaxMemory-size), n(0), 3+allMemory) || x.tried(t, n(api.MaxMemory-size), n(0), 3+allMemory-1) {
			t.Errorf("%s at the last place", code)
		}
		for _, at := range []api.Word{n(api.MaxMemory - size + 1), n(api.MaxMemory), n(1<<64 - 1), n(1<<64 - 31), power(64), top, less(31)} {
			if x.tried(t, at, n(0), api.MaxGas) {
				t.Errorf("%s at %x goes", code, at)
			}
		}
	}
}

// 13.2: Sentry: as much must be left to write a slot, and not one more; even where nothing is to be paid.
func TestSentry(t *testing.T) {
	x := coded("5f 5f 55 5f 5f 55 00").fit()
	ahead := uint64(4 + 100 + 2100 + 4 + 100)
	x.gas(ahead+api.Sentry).goes(t, 7, 6, api.Ending{Kind: api.EndStop, Left: api.Sentry})
	x.gas(ahead+api.Sentry-1).goes(t, 6, 5, halted(api.HaltGas))
	// cold: what is left ahead of 2100 that are paid
	y := coded("5f 5f 55 00").fit()
	y.gas(4+100+api.Sentry).goes(t, 4, 3, api.Ending{Kind: api.EndStop, Left: api.Sentry - 2100})
	y.gas(4+100+api.Sentry-1).goes(t, 3, 2, halted(api.HaltGas))
}

// 13.2: what passes in a call: at its bound, and one gas below it, where TookBack is left; the return data of an earlier call are none then.
func TestPassAtItsBound(t *testing.T) {
	for _, code := range []string{"f8", "f9", "fb"} {
		words := zeros(3)
		if code != "f8" {
			words = zeros(2)
		}
		cost := uint64(2*len(words) + 2 + 100 + 2500)
		x := of(words, raw("30"), raw(code), raw("00")).fit()
		x.accounts[0].Code = least(0x00)
		for _, p := range x.gas(cost + 7300).three(t) {
			p.step(many)
			p.hold()
			if asked, _ := p.a.Asked(); asked.Gas != 2300 {
				t.Errorf("%s: %+v", code, asked)
			}
		}
		x.gas(cost+7299).goes(t, len(words)+3, len(words)+2, api.Ending{Kind: api.EndStop, Left: 7299})
	}
	call := slices.Concat(zeros(3), raw("30 f8 50"))
	for _, again := range [][]byte{call, slices.Concat(zeros(2), raw("30 f9 50")), slices.Concat(zeros(2), raw("30 fb 50"))} {
		x := of(call, again, raw("3d"), dump(1)).gas(12000).fit()
		for _, p := range x.three(t) {
			p.step(many)
			p.give(api.Reply{Status: api.TookBack, Output: zero(9)})
			p.step(many)
			p.hold()
			if end, _ := p.a.Ended(); end.Kind != api.EndRevert || !bytes.Equal(end.Output, zero(32)) {
				t.Errorf("%x: %+v", again, end)
			}
		}
	}
}

// 13.2: each condition under which none is asked for, alone and at its bound.
func TestAskedForNone(t *testing.T) {
	call := func(value uint64) *frame {
		return of(pushed(numbers(10, 0, 0, value)...), raw("f8 00")).gas(50000).fit()
	}
	create := func(value uint64) *frame {
		return of(pushed(numbers(value, 0, 0, 0)...), raw("ec00 00")).subs(least(0xfe)).gas(50000).fit()
	}
	nonce := func(x uint64) func(*frame) { return func(f *frame) { f.accounts[0].Nonce = x } }
	delegate := of(pushed(numbers(10, 0, 0)...), raw("f9 00")).gas(50000).fit()
	coded := of(pushed(numbers(10, 0, 0)...), raw("f9 00")).gas(50000).fit().turn(func(f *frame) { f.accounts[0].Code = least(0) })
	for i, l := range []struct {
		x    *frame
		asks bool
	}{
		{call(0), true}, {call(7), true}, {call(8), false}, {call(0).depth(1022), true}, {call(0).depth(1023), false},
		{create(0), true}, {create(7), true}, {create(8), false}, {create(0).depth(1022), true}, {create(0).depth(1023), false},
		{create(0).turn(nonce(1<<64 - 1)), false}, {create(0).turn(nonce(1<<64 - 2)), true}, {call(0).turn(nonce(1<<64 - 1)), true},
		{delegate, false}, {coded, true},
	} {
		for _, p := range l.x.three(t) {
			p.step(many)
			p.hold()
			if (p.a.State() == api.Asking) != l.asks {
				t.Errorf("%d: %+v", i, p.a.Sight())
			}
		}
	}
}
