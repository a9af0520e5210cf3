package step_test

import (
	"bytes"
	"fmt"
	"slices"
	"testing"

	"vouch/api"
)

// sample is an instruction with words that it can be done with, and what becomes of them: all in numbers written out.
type sample struct {
	code   []byte     // with its immediate bytes
	takes  []api.Word // the topmost first
	cost   uint64     // the table's gas among it
	leaves []api.Word // in their place, the topmost first
	memory []byte     // all of it, behind it
	to     *api.Place // where it goes on; nil: behind it
	end    *api.Ending
	ask    *api.Ask // with just so much gas
}

// counted is so many bytes, rising from one on.
func counted(from byte, size int) []byte {
	b := make([]byte, size)
	for i := range b {
		b[i] = from + byte(i)
	}
	return b
}

// zero is so many bytes 0.
func zero(size int) []byte { return make([]byte, size) }

// hashOf is the hash of 32 bytes x.
func hashOf(x byte) api.Hash { return api.Hash(bytes.Repeat([]byte{x}, 32)) }

// rich is a frame in which every instruction finds something.
func rich(code ...[]byte) *frame {
	x := of(code...)
	x.accounts[0].Code, x.accounts[0].Slots = least(0x00), []api.Slot{{Key: n(1), Value: n(9)}}
	x.f.Caller, x.f.Origin = addr(0xca), addr(0x05)
	x.f.Value, x.f.Price = n(0x7a), power(200)
	x.f.Block = api.Block{Number: 100, Time: 1 << 63, Coinbase: api.Address{0: 0xc0}, Random: top, Limit: 1<<64 - 1, Chain: n(77), Base: power(100), BlobBase: power(101), Hashes: []api.Hash{hashOf(1), hashOf(2)}}
	return x.input(counted(1, 40)).data(counted(0x81, 40)).blobs(hashOf(7), hashOf(8)).
		subs(least(0xfe), sized(0x00, 3, 2)).
		section(api.Type{}, raw("e4")).section(api.Type{Out: never}, dump(0))
}

// tells are those that take nothing, and the word that they leave in a rich frame.
func tells() []sample {
	told := func(code string, cost uint64, x api.Word) sample {
		return sample{code: raw(code), cost: cost, leaves: []api.Word{x}}
	}
	return []sample{
		told("30", 2, n(0x0a)), told("32", 2, n(0x05)), told("33", 2, n(0xca)), told("34", 2, n(0x7a)),
		told("36", 2, n(40)), told("3a", 2, power(200)), told("3d", 2, n(0)),
		told("41", 2, bytesWord(append([]byte{0xc0}, zero(19)...))), told("42", 2, n(1<<63)), told("43", 2, n(100)), told("44", 2, top),
		told("45", 2, n(1<<64-1)), told("46", 2, n(77)), told("47", 5, n(7)), told("48", 2, power(100)), told("4a", 2, power(101)),
		told("59", 2, n(0)), told("5f", 2, n(0)), told("d1 0008", 3, bytesWord(counted(0x89, 32))), told("d2", 2, n(40)),
	}
}

// reckonings are those of words alone.
func reckonings() []sample {
	made := func(code string, cost uint64, leaves api.Word, takes ...api.Word) sample {
		return sample{code: raw(code), cost: cost, takes: takes, leaves: []api.Word{leaves}}
	}
	return []sample{
		made("01", 3, n(12), numbers(5, 7)...), made("02", 5, n(42), numbers(6, 7)...), made("03", 3, n(5), numbers(9, 4)...),
		made("04", 5, n(2), numbers(9, 4)...), made("05", 5, less(2), less(9), n(4)), made("06", 5, n(1), numbers(9, 4)...),
		made("07", 5, top, less(9), n(4)), made("08", 8, n(3), numbers(9, 4, 5)...), made("09", 8, n(1), numbers(9, 4, 5)...),
		made("0a", 60, n(1024), numbers(2, 10)...), made("0a", 110, n(0), numbers(2, 256)...), made("0a", 10, n(1), numbers(9, 0)...), made("0b", 5, less(128), numbers(0, 128)...),
		made("10", 3, n(1), numbers(1, 2)...), made("11", 3, n(1), numbers(2, 1)...), made("12", 3, n(1), top, n(0)),
		made("13", 3, n(1), n(0), top), made("14", 3, n(1), numbers(3, 3)...), made("15", 3, n(1), n(0)),
		made("16", 3, n(8), numbers(12, 10)...), made("17", 3, n(14), numbers(12, 10)...), made("18", 3, n(6), numbers(12, 10)...),
		made("19", 3, top, n(0)), made("1a", 3, n(0x12), numbers(30, 0x1234)...), made("1b", 3, n(16), numbers(4, 1)...),
		made("1c", 3, n(0x12), numbers(4, 0x123)...), made("1d", 3, top, n(1), less(2)), made("1e", 5, n(255), n(1)),
	}
}

// shifts are those that push, put again and let change places.
func shifts() []sample {
	var l []sample
	for i := 1; i <= 32; i++ {
		l = append(l, sample{code: append([]byte{byte(0x5f + i)}, counted(0xf0, i)...), cost: 3, leaves: []api.Word{bytesWord(counted(0xf0, i))}})
	}
	rising := func(count int) []api.Word {
		var l []api.Word
		for i := range count {
			l = append(l, n(uint64(i+1)))
		}
		return l
	}
	changed := func(count, i, j int) []api.Word {
		l := rising(count)
		l[i-1], l[j-1] = n(uint64(j)), n(uint64(i))
		return l
	}
	for i := 1; i <= 16; i++ {
		l = append(l, sample{code: []byte{byte(0x7f + i)}, cost: 3, takes: rising(i), leaves: append(numbers(uint64(i)), rising(i)...)})
		l = append(l, sample{code: []byte{byte(0x8f + i)}, cost: 3, takes: rising(i + 1), leaves: changed(i+1, 1, i+1)})
	}
	for _, i := range []int{1, 3, 17, 200, 256} {
		l = append(l, sample{code: []byte{0xe6, byte(i - 1)}, cost: 3, takes: rising(i), leaves: append(numbers(uint64(i)), rising(i)...)})
		l = append(l, sample{code: []byte{0xe7, byte(i - 1)}, cost: 3, takes: rising(i + 1), leaves: changed(i+1, 1, i+1)})
	}
	for _, x := range [][2]int{{1, 1}, {1, 2}, {2, 1}, {3, 2}, {16, 1}, {1, 16}, {16, 16}} {
		i, j := x[0], x[1]
		l = append(l, sample{code: []byte{0xe8, byte(16*(i-1) + j - 1)}, cost: 3, takes: rising(i + j + 1), leaves: changed(i+j+1, i+1, i+j+1)})
	}
	return append(l, sample{code: raw("50"), cost: 2, takes: numbers(9)}, sample{code: raw("5b"), cost: 1})
}

// others are all else, but RETF.
func others() []sample {
	nothing := bytesWord(raw("c5d2460186f7233c927e7db2dcc703c0e500b653ca82273b7bfad8045d85a470"))
	one := bytesWord(raw("bc36789e7a1e281436464229828f817d6612f7b477d66591ff96a9e064bcc98a")) // the hash of one byte 0
	deployed := append(sized(0x00, 3, 2), 0)
	l := []sample{
		{code: raw("20"), takes: []api.Word{top, n(0)}, cost: 30, leaves: []api.Word{nothing}},
		{code: raw("20"), takes: numbers(0, 1), cost: 30 + 6 + 3, leaves: []api.Word{one}, memory: zero(32)},
		{code: raw("31"), takes: numbers(10), cost: 2600, leaves: numbers(7)},
		{code: raw("35"), takes: numbers(1), cost: 3, leaves: []api.Word{bytesWord(counted(2, 32))}},
		{code: raw("37"), takes: numbers(1, 2, 3), cost: 9, memory: append(raw("00 030405"), zero(28)...)},
		{code: raw("3e"), takes: numbers(0, 0, 1), cost: 9, memory: zero(32)},
		{code: raw("40"), takes: numbers(99), cost: 20, leaves: []api.Word{bytesWord(bytes.Repeat([]byte{1}, 32))}},
		{code: raw("49"), takes: numbers(1), cost: 3, leaves: []api.Word{bytesWord(bytes.Repeat([]byte{8}, 32))}},
		{code: raw("51"), takes: numbers(0), cost: 6, leaves: numbers(0), memory: zero(32)},
		{code: raw("52"), takes: numbers(0, 0x0102), cost: 6, memory: append(zero(30), 1, 2)},
		{code: raw("53"), takes: numbers(30, 0x1234), cost: 6, memory: append(zero(30), 0x34, 0)},
		{code: raw("54"), takes: numbers(1), cost: 2100, leaves: numbers(9)},
		{code: raw("55"), takes: numbers(2, 5), cost: 22100},
		{code: raw("5c"), takes: numbers(3), cost: 100, leaves: numbers(0)},
		{code: raw("5d"), takes: numbers(3, 4), cost: 100},
		{code: raw("5e"), takes: numbers(0, 32, 1), cost: 12, memory: zero(64)},
		{code: raw("d0"), takes: numbers(8), cost: 4, leaves: []api.Word{bytesWord(counted(0x89, 32))}},
		{code: raw("d3"), takes: numbers(0, 39, 2), cost: 9, memory: append([]byte{0xa8}, zero(31)...)},
		{code: raw("e0 0001"), cost: 2, to: &api.Place{At: 4}},
		{code: raw("e1 0001"), takes: numbers(2), cost: 4, to: &api.Place{At: 33 + 4}},
		{code: raw("e1 0001"), takes: numbers(0), cost: 4},
		{code: raw("e2 01 0000 0001"), takes: numbers(1), cost: 4, to: &api.Place{At: 33 + 7}},
		{code: raw("e2 01 0000 0001"), takes: numbers(2), cost: 4},
		{code: raw("e3 0001"), cost: 5, to: &api.Place{Section: 1}},
		{code: raw("e5 0002"), cost: 5, to: &api.Place{Section: 2}},
		{code: raw("ec00"), takes: numbers(2, 5, 0, 1), cost: 32009, ask: &api.Ask{Kind: api.AskMake, Value: n(2), Salt: n(5), Input: []byte{0}}},
		{code: raw("ee01"), takes: numbers(0, 1), cost: 4603, end: &api.Ending{Kind: api.EndDeploy, Output: deployed, Sub: 1, Behind: []byte{0}}},
		{code: raw("00"), end: &api.Ending{Kind: api.EndStop}},
		{code: raw("f3"), takes: numbers(0, 1), cost: 3, end: &api.Ending{Kind: api.EndReturn, Output: []byte{0}}},
		{code: raw("fd"), takes: numbers(0, 1), cost: 3, end: &api.Ending{Kind: api.EndRevert, Output: []byte{0}}},
		{code: raw("fe"), end: &api.Ending{Kind: api.EndHalt, Why: api.HaltInvalid}},
		{code: raw("f7"), takes: numbers(0), cost: 3, leaves: numbers(0)},
		{code: raw("f8"), takes: numbers(10, 0, 1, 0), cost: 2603, leaves: numbers(1), memory: zero(32)},
		{code: raw("f9"), takes: numbers(10, 0, 1), cost: 2603, leaves: numbers(1), memory: zero(32)},
		{code: raw("fb"), takes: numbers(10, 0, 1), cost: 2603, leaves: numbers(1), memory: zero(32)},
	}
	for i := range 5 {
		l = append(l, sample{code: []byte{byte(0xa0 + i)}, takes: numbers([]uint64{0, 1, 11, 12, 13, 14}[:2+i]...), cost: uint64(375 + 375*i + 8 + 3), memory: zero(32)})
	}
	return l
}

// samples are all of them.
func samples() []sample { return slices.Concat(tells(), reckonings(), shifts(), others()) }

func (s sample) String() string { return fmt.Sprintf("%x of %x", s.code, s.takes) }

// framed is the sample in a rich frame, with so many words 0 below those that it takes.
func (s sample) framed(below int, takes []api.Word) *frame {
	x := rich(zeros(below), pushed(takes...), s.code, []byte{0x5b}, dump(len(s.leaves)))
	if s.code[0] == 0xee {
		x.init()
	}
	return x
}

// ahead is how many steps, and how much gas, come ahead of it.
func ahead(below, takes int) (int, uint64) { return below + takes, uint64(2*below + 3*takes) }

// gone: behind it all is as the sample says, and no gas is left.
func (s sample) gone(t *testing.T, below int) {
	t.Helper()
	steps, cost := ahead(below, len(s.takes))
	x := s.framed(below, s.takes).gas(cost + s.cost)
	r, _ := x.begun(t)
	if made := r.Go(steps + 1); made != steps+1 {
		t.Errorf("%v: %d steps of %d, %+v", s, made, steps+1, r.Sight())
		return
	}
	at := below + 33*len(s.takes)
	switch {
	case s.end != nil:
		if got, _ := r.Ended(); !alikeEnds(got, *s.end) || r.Sight() != (api.Sight{State: api.Ended, At: at}) {
			t.Errorf("%v: %+v, %+v", s, got, r.Sight())
		}
	case s.ask != nil:
		if got, _ := r.Asked(); !alikeAsks(got, *s.ask) || r.Sight() != (api.Sight{State: api.Asking, At: at, Height: below, Memory: 32}) {
			t.Errorf("%v: %+v, %+v", s, got, r.Sight())
		}
	default:
		want := api.Sight{At: at + len(s.code), Height: below + len(s.leaves), Memory: len(s.memory)}
		if s.to != nil {
			want.Section, want.At = s.to.Section, s.to.At
			if s.to.Section == 0 {
				want.At += below
			}
		}
		if s.code[0] == 0xe3 {
			want.Returns = 1
		}
		if got := r.Sight(); got != want {
			t.Errorf("%v: %+v, not %+v", s, got, want)
		}
	}
}

// fails: it ends so at the instruction, with so much gas for it, so many words below and these ahead of it.
func (s sample) fails(t *testing.T, below int, takes []api.Word, gas uint64, want api.Ending) {
	t.Helper()
	steps, cost := ahead(below, len(takes))
	s.framed(below, takes).gas(cost+gas).ends(t, steps+1, below+33*len(takes), want)
}

// Every instruction, with just enough gas: what it costs, how high the stack is behind it, where it goes on, or how it ends.
func TestEachWithJustEnoughGas(t *testing.T) {
	met := map[byte]bool{0xe4: true} // RETF has a test of its own
	for _, s := range samples() {
		met[s.code[0]] = true
		if row := table[int(s.code[0])]; uint64(row.cost) > s.cost {
			t.Errorf("%v costs %d by the table", s, row.cost)
		}
		s.gone(t, 0)
	}
	for code := range table {
		if !met[byte(code)] {
			t.Errorf("no sample of %x", code)
		}
	}
}

// Every instruction: the words that it leaves, and memory behind it.
func TestEachLeaves(t *testing.T) {
	for _, s := range samples() {
		if s.end != nil || s.ask != nil || s.code[0] >= 0xf8 {
			continue
		}
		r, _, _ := s.framed(0, s.takes).gas(100000).gone(t)
		want := slices.Clone(s.memory)
		for _, x := range s.leaves {
			want = append(want, wordBytes(x)...)
		}
		if got, _ := r.Ended(); got.Kind != api.EndRevert || !bytes.Equal(got.Output, want) {
			t.Errorf("%v: %x (%+v), not %x", s, got.Output, got, want)
		}
	}
}

// Every instruction that costs something, with one gas too little, and with none.
func TestEachWithTooLittleGas(t *testing.T) {
	for _, s := range samples() {
		if s.cost == 0 {
			continue
		}
		s.fails(t, 0, s.takes, s.cost-1, halted(api.HaltGas))
		s.fails(t, 0, s.takes, 0, halted(api.HaltGas))
		if row := table[int(s.code[0])]; row.cost > 0 {
			s.fails(t, 0, s.takes, uint64(row.cost-1), halted(api.HaltGas))
		}
	}
}

// Every instruction that takes words, with one too few: that is looked at ahead of the gas.
func TestEachWithAWordTooFew(t *testing.T) {
	for _, s := range samples() {
		if len(s.takes) == 0 {
			continue
		}
		few := s.takes[:len(s.takes)-1]
		s.fails(t, 0, few, 100000, faulted(api.FaultUnder))
		s.fails(t, 0, few, 0, faulted(api.FaultUnder))
		s.fails(t, 0, nil, 0, faulted(api.FaultUnder))
	}
}

// Every instruction with the stack full ahead of it: one that leaves more words than it takes has no room, and that is looked at ahead of the gas; all others go as ever. With one word fewer all go.
func TestEachWithTheStackFull(t *testing.T) {
	for _, s := range samples() {
		below := api.MaxStack - len(s.takes)
		s.gone(t, below-1)
		if len(s.leaves) <= len(s.takes) {
			s.gone(t, below)
			continue
		}
		s.fails(t, below, s.takes, 100000, faulted(api.FaultOver))
		s.fails(t, below, s.takes, 0, faulted(api.FaultOver))
	}
}

// RETF, likewise: with just enough gas, with one too little, with the stack full, and where there is nothing to return to.
func TestEachReturn(t *testing.T) {
	for _, below := range []int{0, 1, api.MaxStack} {
		x := of(zeros(below), raw("e3 0001 00")).section(api.Type{}, raw("e4"))
		gas := uint64(2*below + 5 + 3)
		x.gas(gas).ends(t, below+3, below+3, api.Ending{Kind: api.EndStop})
		r, _, _ := x.gas(gas - 1).gone(t)
		if got, _ := r.Ended(); !alikeEnds(got, halted(api.HaltGas)) || r.Sight() != (api.Sight{State: api.Ended, Section: 1}) {
			t.Errorf("%v: %+v, %+v", x, got, r.Sight())
		}
	}
	of(raw("e4")).gas(3).ends(t, 1, 0, faulted(api.FaultReturn))
	of(raw("e4")).gas(2).ends(t, 1, 0, halted(api.HaltGas))
}
