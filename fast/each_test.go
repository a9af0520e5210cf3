package fast_test

import (
	"bytes"
	"fmt"
	"slices"
	"testing"

	"vouch/api"
)

// sample is an instruction with words that it can be done with, what it costs then (the table's gas among it) and what it leaves: in numbers written out.
type sample struct {
	code   []byte     // with its immediate bytes
	takes  []api.Word // the topmost first
	cost   uint64
	leaves []api.Word // in their place, the topmost first
	turn   func(x *frame)
}

// samples are all of them, but RETF.
func samples() []sample { return slices.Concat(tells(), reckonings(), shifts(), others(), leading()) }

// tells are those that take nothing, and the word that they leave in a rich frame.
func tells() []sample {
	told := func(code string, cost uint64, x api.Word) sample {
		return sample{code: raw(code), cost: cost, leaves: []api.Word{x}}
	}
	return []sample{
		told("30", 2, n(0x0a)), told("32", 2, n(0x05)), told("33", 2, n(0xca)), told("34", 2, n(0x7a)),
		told("36", 2, n(40)), told("3a", 2, power(200)), told("3d", 2, n(0)),
		told("41", 2, bytesWord(append([]byte{0xc0}, zero(19)...))), told("42", 2, n(1<<63)), told("43", 2, n(100)), told("44", 2, top),
		told("45", 2, n(1<<64-1)), told("46", 2, n(77)), told("47", 5, n(7)), told("48", 2, power(100)), told("4a", 2, power(101)),
		told("59", 2, n(0)), told("5f", 2, n(0)), told("d1 0008", 3, bytesWord(counted(0x89, 32))), told("d2", 2, n(40)),
	}
}

// reckonings are those of words alone.
func reckonings() []sample {
	made := func(code string, cost uint64, leaves api.Word, takes ...api.Word) sample {
		return sample{code: raw(code), cost: cost, takes: takes, leaves: []api.Word{leaves}}
	}
	return []sample{
		made("01", 3, n(12), numbers(5, 7)...), made("02", 5, n(42), numbers(6, 7)...), made("03", 3, n(5), numbers(9, 4)...),
		made("04", 5, n(2), numbers(9, 4)...), made("05", 5, less(2), less(9), n(4)), made("06", 5, n(1), numbers(9, 4)...),
		made("07", 5, top, less(9), n(4)), made("08", 8, n(3), numbers(9, 4, 5)...), made("09", 8, n(1), numbers(9, 4, 5)...),
		made("0a", 60, n(1024), numbers(2, 10)...), made("0a", 110, n(0), numbers(2, 256)...), made("0a", 10, n(1), numbers(9, 0)...), made("0b", 5, less(128), numbers(0, 128)...),
		made("10", 3, n(1), numbers(1, 2)...), made("11", 3, n(1), numbers(2, 1)...), made("12", 3, n(1), top, n(0)),
		made("13", 3, n(1), n(0), top), made("14", 3, n(1), numbers(3, 3)...), made("15", 3, n(1), n(0)),
		made("10", 3, n(0), numbers(2, 1)...), made("11", 3, n(0), numbers(1, 2)...), made("12", 3, n(0), n(0), top),
		made("13", 3, n(0), top, n(0)), made("14", 3, n(0), numbers(3, 4)...), made("15", 3, n(0), power(255)),
		made("16", 3, n(8), numbers(12, 10)...), made("17", 3, n(14), numbers(12, 10)...), made("18", 3, n(6), numbers(12, 10)...),
		made("19", 3, top, n(0)), made("1a", 3, n(0x12), numbers(30, 0x1234)...), made("1b", 3, n(16), numbers(4, 1)...),
		made("1c", 3, n(0x12), numbers(4, 0x123)...), made("1d", 3, top, n(1), less(2)), made("1e", 5, n(255), n(1)),
	}
}

// shifts are those that push, put again and let change places.
func shifts() []sample {
	var l []sample
	for i := 1; i <= 32; i++ {
		l = append(l, sample{code: append([]byte{byte(0x5f + i)}, counted(0xf0, i)...), cost: 3, leaves: []api.Word{bytesWord(counted(0xf0, i))}})
	}
	changed := func(count, i, j int) []api.Word {
		l := rising(count)
		l[i-1], l[j-1] = n(uint64(j)), n(uint64(i))
		return l
	}
	for i := 1; i <= 16; i++ {
		l = append(l, sample{code: []byte{byte(0x7f + i)}, cost: 3, takes: rising(i), leaves: append(numbers(uint64(i)), rising(i)...)})
		l = append(l, sample{code: []byte{byte(0x8f + i)}, cost: 3, takes: rising(i + 1), leaves: changed(i+1, 1, i+1)})
	}
	for _, i := range []int{1, 3, 17, 200, 256} {
		l = append(l, sample{code: []byte{0xe6, byte(i - 1)}, cost: 3, takes: rising(i), leaves: append(numbers(uint64(i)), rising(i)...)})
		l = append(l, sample{code: []byte{0xe7, byte(i - 1)}, cost: 3, takes: rising(i + 1), leaves: changed(i+1, 1, i+1)})
	}
	for _, x := range [][2]int{{1, 1}, {1, 2}, {2, 1}, {3, 2}, {16, 1}, {1, 16}, {16, 16}} {
		i, j := x[0], x[1]
		l = append(l, sample{code: []byte{0xe8, byte(16*(i-1) + j - 1)}, cost: 3, takes: rising(i + j + 1), leaves: changed(i+j+1, i+1, i+j+1)})
	}
	return append(l, sample{code: raw("50"), cost: 2, takes: numbers(9)}, sample{code: raw("5b"), cost: 1})
}

// others are all else that goes on to what is behind it.
func others() []sample {
	nothing := bytesWord(raw("c5d2460186f7233c927e7db2dcc703c0e500b653ca82273b7bfad8045d85a470"))
	one := bytesWord(raw("bc36789e7a1e281436464229828f817d6612f7b477d66591ff96a9e064bcc98a")) // the hash of one byte 0
	made := func(code string, cost uint64, takes []api.Word, leaves ...api.Word) sample {
		return sample{code: raw(code), cost: cost, takes: takes, leaves: leaves}
	}
	l := []sample{
		made("20", 30, []api.Word{top, n(0)}, nothing), made("20", 30+6+3, numbers(0, 1), one),
		made("31", 2600, numbers(10), n(7)), made("35", 3, numbers(1), bytesWord(counted(2, 32))),
		made("37", 9, numbers(1, 2, 3)), made("3e", 9, numbers(0, 0, 1)),
		made("40", 20, numbers(99), bytesWord(bytes.Repeat([]byte{1}, 32))), made("49", 3, numbers(1), bytesWord(bytes.Repeat([]byte{8}, 32))),
		made("51", 6, numbers(0), n(0)), made("52", 6, numbers(0, 0x0102)), made("53", 6, numbers(30, 0x1234)),
		made("54", 2100, numbers(1), n(9)), made("55", 22100, numbers(2, 5)), made("5c", 100, numbers(3), n(0)), made("5d", 100, numbers(3, 4)),
		made("5e", 12, numbers(0, 32, 1)), made("d0", 4, numbers(8), bytesWord(counted(0x89, 32))), made("d3", 9, numbers(0, 39, 2)),
		made("f7", 3, numbers(0), n(0)),
		made("f8", 2603, numbers(10, 0, 1, 0), n(1)), made("f9", 2603, numbers(10, 0, 1), n(1)), made("fb", 2603, numbers(10, 0, 1), n(1)),
		made("e1 0001", 4, numbers(2)), made("e1 0001", 4, numbers(0)),
		made("e2 01 0000 0001", 4, numbers(1)), made("e2 01 0000 0001", 4, numbers(2)),
	}
	for i := range 5 {
		l = append(l, made(fmt.Sprintf("%02x", 0xa0+i), uint64(375+375*i+8+3), numbers([]uint64{0, 1, 11, 12, 13, 14}[:2+i]...)))
	}
	return l
}

// leading are those that lead elsewhere, ask, or end.
func leading() []sample {
	return []sample{
		{code: raw("e0 0000"), cost: 2},
		{code: raw("e3 0001"), cost: 5, turn: func(x *frame) { x.section(api.Type{}, raw("e4")) }},
		{code: raw("e5 0001"), cost: 5, turn: func(x *frame) { x.section(api.Type{Out: never}, dump(0)) }},
		{code: raw("ec00"), takes: numbers(2, 5, 0, 1), cost: 32009, turn: func(x *frame) { x.subs(least(0xfe)) }, leaves: numbers(0)},
		{code: raw("ee00"), takes: numbers(0, 1), cost: 4603, turn: func(x *frame) { x.init().subs(sized(0x00, 3, 2)) }},
		{code: raw("00")},
		{code: raw("f3"), takes: numbers(0, 1), cost: 3},
		{code: raw("fd"), takes: numbers(0, 1), cost: 3},
		{code: raw("fe")},
	}
}

func (s sample) String() string { return fmt.Sprintf("%x of %x", s.code, s.takes) }

// framed is the sample in valid code, with so many words 0 below those that it takes, and what follows it, if something does.
func (s sample) framed(below int) *frame {
	x := rich(zeros(below), pushed(s.takes...), s.code)
	if row := table[int(s.code[0])]; row.cost > 0 && row.name != "JUMPF" && row.name != "RETF" {
		x.c.Codes[0] = slices.Concat(x.c.Codes[0], []byte{0x5b}, dump(len(s.leaves)))
	}
	if s.turn != nil {
		s.turn(x)
	}
	return x.fit()
}

// three is the pairs of New's run with the checked one, with the bare one, and of the bare one with the checked one.
func (x *frame) three(t *testing.T) []*pair {
	t.Helper()
	return []*pair{
		{t: t, what: x, a: x.fast(t), b: x.checked(t), world: true},
		{t: t, what: x, a: x.fast(t), b: x.bare(t), world: true},
		{t: t, what: x, a: x.bare(t), b: x.checked(t), world: true},
	}
}

// 13.2, 13.5: every instruction in valid code, with just enough gas: it goes as in the checked machine, costs what is written here and leaves what is.
func TestEachWithJustEnoughGas(t *testing.T) {
	met := map[byte]bool{0xe4: true} // RETF has a test of its own
	for _, s := range samples() {
		met[s.code[0]] = true
		for _, below := range []int{0, 1} {
			x := s.framed(below).gas(uint64(2*below+3*len(s.takes)) + s.cost)
			for _, p := range x.three(t) {
				p.whole(draw(1), 1, below+len(s.takes)+1, nil)
				got := p.a.Sight()
				if end, _ := p.a.Ended(); end.Why == api.HaltGas || got.Left != 0 {
					t.Errorf("%v: %+v, %+v", s, got, end)
				}
				if got.State == api.Going && got.Height != below+len(s.leaves) {
					t.Errorf("%v: %+v, not %d words", s, got, below+len(s.leaves))
				}
			}
		}
	}
	for code := range table {
		if !met[byte(code)] {
			t.Errorf("no sample of %x", code)
		}
	}
}

// 13.2, 13.5: every instruction in valid code, with one gas too little, with just the table's, and with one less than that.
func TestEachWithTooLittleGas(t *testing.T) {
	for _, s := range samples() {
		table := uint64(table[int(s.code[0])].cost)
		for _, gas := range []uint64{s.cost - 1, table, table - 1, 0} {
			if gas >= s.cost {
				continue
			}
			steps := len(s.takes) + 1
			x := s.framed(0).gas(3*uint64(len(s.takes)) + gas)
			for _, p := range x.three(t) {
				p.whole(draw(2), 1, steps, nil)
				if end, _ := p.a.Ended(); !alikeEnds(end, halted(api.HaltGas)) || p.a.Sight().At != 33*len(s.takes) {
					t.Errorf("%v with %d: %+v, %+v", s, gas, end, p.a.Sight())
				}
			}
		}
	}
}

// 13.2, 13.5: every instruction, and what follows it, with gas for all; the words that it leaves, and memory behind it, are told then.
func TestEachAndWhatFollows(t *testing.T) {
	t.Parallel()
	for _, s := range samples() {
		for _, still := range []bool{false, true} {
			x := s.framed(0).gas(200000)
			x.f.Still = still
			for seed := range uint64(3) {
				for _, p := range x.three(t) {
					p.whole(draw(seed), 1, many, nil)
					end, _ := p.a.Ended()
					if end.Kind != api.EndRevert || s.code[0] == 0xec || s.code[0] >= 0xf8 {
						continue // what is left hangs on the answer
					}
					var want []byte
					for _, word := range s.leaves {
						want = append(want, wordBytes(word)...)
					}
					if !bytes.HasSuffix(end.Output, want) {
						t.Errorf("%v: %x", s, end.Output)
					}
				}
			}
		}
	}
}

// 13.2, 13.5: RETF, with just enough gas and with one too little, back into the section that called.
func TestEachReturn(t *testing.T) {
	for _, below := range []int{0, 1, 1023} {
		x := of(zeros(below), raw("e3 0001 00")).section(api.Type{}, raw("e4")).fit()
		gas := uint64(2*below + 5 + 3)
		x.gas(gas).goes(t, below+3, below+3, api.Ending{Kind: api.EndStop})
		for _, s := range []side{x.gas(gas - 1).fast(t), x.bare(t), x.checked(t)} {
			s.ends(t, x, below+2, api.Place{Section: 1}, halted(api.HaltGas))
		}
	}
}
