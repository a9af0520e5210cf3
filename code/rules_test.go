package code_test

import (
	"bytes"
	"math"
	"slices"
	"sync"
	"testing"

	"vouch/api"
	"vouch/code"
)

// ask makes every call there is.
func ask(b []byte, at int, i api.Instr) {
	code.One(b, at)
	code.Scan(b)
	for range code.All(b) {
	}
	code.Starts(b)
	code.Leads(i)
	code.Named(i)
	code.Check(b)
}

// R1: no call panics, at any argument.
func TestNoPanic(t *testing.T) {
	d := chance(15)
	edges := []int{math.MinInt, math.MinInt + 1, math.MaxInt, math.MaxInt - 1, math.MinInt32, math.MaxInt32, -1, 0, 1, 2, 3, 256, 65535, api.MaxText, api.MaxText + 1}
	pick := func() int { return edges[d.IntN(len(edges))] }
	ask(nil, 0, api.Instr{})
	for _, c := range append(instructions(), 0x0c, -1, 256, math.MinInt, math.MaxInt) {
		for range 200 {
			imm := make([]byte, d.IntN(6))
			for j := range imm {
				imm[j] = byte(d.IntN(3) * 127)
			}
			i := api.Instr{At: pick(), Code: c, Imm: imm, Next: pick()}
			if d.IntN(2) == 0 {
				i.Next = i.At + 1 + len(imm)
			}
			ask(imm, pick(), i)
		}
	}
	for range 20000 {
		b := make([]byte, d.IntN(20))
		for j := range b {
			b[j] = byte(d.Uint32())
		}
		ask(b, d.IntN(24)-2, api.Instr{At: d.IntN(5), Code: d.IntN(256), Imm: b, Next: d.IntN(9)})
	}
}

// roomy is a list with spare room that can be told.
func roomy(b []byte) []byte {
	room := append(slices.Clone(b), bytes.Repeat([]byte{0x77}, 40)...)
	return room[:len(b):len(room)]
}

// subjects are sections for what is asked of memory.
func subjects() [][]byte {
	return [][]byte{nil, raw("00"), mixed(), raw("60 01 60 02 60 03 00"), raw("e2 02 00 00 00 00 00 00 e1 00 00 e0 00 00 00"), raw("5f 61 00"), raw("60 07 0c"), raw("5f 5f"), slices.Concat(jump(0xe2, make([]int, 256)...), raw("00"))}
}

// R3: what is handed in stays as it was, spare room and all.
func TestHandedInStays(t *testing.T) {
	for _, b := range subjects() {
		given := roomy(b)
		was := slices.Clone(given[:cap(given)])
		for at := -1; at <= len(b); at++ {
			ask(given, at, api.Instr{})
		}
		for _, c := range instructions() {
			ask(nil, 0, api.Instr{Code: c, Imm: given, Next: 1 + len(given)})
		}
		if !bytes.Equal(given[:cap(given)], was) {
			t.Errorf("% x has changed", b)
		}
	}
	for _, c := range leading {
		i := instr(formed(chance(16), c, 3), 4)
		i.Imm = roomy(i.Imm)
		was := slices.Clone(i.Imm[:cap(i.Imm)])
		told(t, i)
		if !bytes.Equal(i.Imm[:cap(i.Imm)], was) {
			t.Errorf("Imm of %02x has changed", c)
		}
	}
}

// spoil writes over a list of bytes, and its spare room.
func spoil(b []byte) {
	b = b[:cap(b)]
	for i := range b {
		b[i] ^= 0x5a
	}
}

// apart: is each list of bytes, its spare room counted in, memory of its own? Each is written over in turn, and the others looked at.
func apart(lists [][]byte) bool {
	var were [][]byte
	for _, list := range lists {
		were = append(were, slices.Clone(list[:cap(list)]))
	}
	for i, list := range lists {
		spoil(list)
		for j, other := range lists {
			if j != i && !bytes.Equal(other[:cap(other)], were[j]) {
				return false
			}
		}
		copy(list[:cap(list)], were[i])
	}
	return true
}

// R3: what is answered is new memory: apart from the section, from other answers, and within one answer.
func TestAnswersAreNew(t *testing.T) {
	for _, b := range subjects() {
		given := roomy(b)
		lists := [][]byte{given}
		take := func(i api.Instr) { lists = append(lists, i.Imm) }
		for range 2 {
			for at := range b {
				i, _ := code.One(given, at)
				take(i)
			}
			all, _, _ := code.Scan(given)
			for _, i := range all {
				take(i)
			}
		}
		seq := code.All(given)
		for range 2 {
			for i := range seq {
				take(i)
				for inner := range seq {
					take(inner)
					break
				}
			}
		}
		if !apart(lists) {
			t.Errorf("% x: lists of its answers share memory", b)
		}
	}
}

// R3, 6.2: whoever ranges may write over what is given.
func TestGivenMayBeSpoiled(t *testing.T) {
	want, _, _ := modelAll(mixed())
	seq := code.All(mixed())
	for range 2 {
		n := 0
		for i := range seq {
			if !same(i, want[n]) {
				t.Errorf("%+v", i)
			}
			spoil(i.Imm)
			n++
		}
		if n != len(want) {
			t.Errorf("%d were given", n)
		}
	}
}

// R3: lists of instructions, of places and of truths are new in each answer, their spare room too, and hang on no list that was handed in.
func TestListsAreNew(t *testing.T) {
	b := mixed()
	first, _, _ := code.Scan(b)
	second, _, _ := code.Scan(b)
	want, _, _ := modelAll(mixed())
	for i := range first[:cap(first)] {
		first[:cap(first)][i] = api.Instr{At: -7}
	}
	if !slices.EqualFunc(second, want, same) {
		t.Errorf("Scan: %+v", second)
	}
	spoil(b)
	if !slices.EqualFunc(second, want, same) {
		t.Errorf("Scan, behind a change of b: %+v", second)
	}
	b = mixed()
	starts, again := code.Starts(b), code.Starts(b)
	was := slices.Clone(again)
	for i := range starts[:cap(starts)] {
		starts[:cap(starts)][i] = !starts[:cap(starts)][i]
	}
	if !slices.Equal(again, was) {
		t.Errorf("Starts: %v", again)
	}
	i := instr(jump(0xe2, 0, 1, 2), 5)
	to, more := code.Leads(i), code.Leads(i)
	for j := range to[:cap(to)] {
		to[:cap(to)][j] = -7
	}
	spoil(i.Imm)
	if !slices.Equal(more, []int{13, 14, 15}) {
		t.Errorf("Leads: %v", more)
	}
}

// R3: nil and an empty list are the same.
func TestNilIsEmpty(t *testing.T) {
	for _, b := range [][]byte{nil, {}, make([]byte, 0, 9)} {
		scanned(t, b)
		one(t, b, 0, api.Instr{}, api.ErrArg)
		for _, c := range []int{0x00, 0x5f, 0x60, 0xe0, 0xe2, 0xec} {
			told(t, api.Instr{At: 2, Code: c, Imm: b, Next: 3})
		}
	}
}

// R4: the same call answers the same again, whatever was asked between, beside others that ask too, and whatever spare room lies behind b.
func TestSameAgain(t *testing.T) {
	var group sync.WaitGroup
	b := mixed()
	for seed := range uint64(4) {
		group.Go(func() {
			d := chance(20 + seed)
			for range 300 {
				c := drawn(d)
				for _, section := range [][]byte{c, roomy(c), b} {
					if wrong := unlike(section); wrong != "" {
						t.Error(wrong)
						return
					}
				}
			}
		})
	}
	group.Wait()
	d := chance(24)
	for range 300 {
		i := instr(formed(d, 0xe0+d.IntN(6), byte(d.IntN(3))), d.IntN(99))
		told(t, i)
		told(t, i)
	}
}
