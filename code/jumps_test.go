package code_test

import (
	"math"
	"slices"
	"testing"

	"vouch/api"
	"vouch/code"
)

// stands is 6.5 by the model's table.
func stands(i api.Instr) bool {
	if !there(i.Code) || i.At < 0 || i.At > api.MaxText || i.Code == 0xe2 && len(i.Imm) == 0 {
		return false
	}
	var k byte
	if len(i.Imm) > 0 {
		k = i.Imm[0]
	}
	return len(i.Imm) == immediate(i.Code, k) && i.Next == i.At+1+len(i.Imm)
}

// told holds Leads and Named against the model.
func told(t *testing.T, i api.Instr) {
	t.Helper()
	var to []int
	n, ok := 0, false
	if stands(i) {
		to = modelLeads(i)
		n, ok = modelNamed(i)
	}
	if got := code.Leads(i); !slices.Equal(got, to) {
		t.Fatalf("Leads(%+v): %v; due %v", i, got, to)
	}
	if m, is := code.Named(i); m != n || is != ok {
		t.Fatalf("Named(%+v): %d, %v; due %d, %v", i, m, is, n, ok)
	}
}

// modelNamed is 6.7 of an instruction that stands.
func modelNamed(i api.Instr) (int, bool) {
	switch i.Code {
	case 0xe3, 0xe5, 0xd1:
		return int(i.Imm[0])*256 + int(i.Imm[1]), true
	case 0xec, 0xee:
		return int(i.Imm[0]), true
	}
	return 0, false
}

// leading are the codes of the instructions that jump or name something: of them it can be told whether an Instr stands.
var leading = []int{0xe0, 0xe1, 0xe2, 0xe3, 0xe5, 0xd1, 0xec, 0xee}

// speaks: do Leads or Named answer something?
func speaks(i api.Instr) bool {
	_, named := code.Named(i)
	return named || len(code.Leads(i)) > 0
}

// 6.5: each of those that jump or name something stands, at 0, at MaxText and between.
func TestStands(t *testing.T) {
	d := chance(9)
	for _, c := range leading {
		for _, at := range []int{0, 1, 2, 1000, 65535, api.MaxText - 1, api.MaxText} {
			if i := instr(formed(d, c, 1), at); !speaks(i) {
				t.Errorf("%+v does not stand", i)
			} else {
				told(t, i)
			}
		}
	}
}

// 6.5: At below 0 and above MaxText, Next being as it should.
func TestStandsNotAt(t *testing.T) {
	d := chance(10)
	for _, c := range leading {
		for _, at := range []int{-1, -2, -3, -65536, math.MinInt32, math.MinInt, api.MaxText + 1, api.MaxText + 2, math.MaxInt32, math.MaxInt - 2, math.MaxInt} {
			if i := instr(formed(d, c, 1), at); speaks(i) {
				t.Errorf("%+v stands", i)
			}
		}
	}
}

// 6.5: every other Next.
func TestStandsNotNext(t *testing.T) {
	d := chance(11)
	for _, c := range leading {
		for _, at := range []int{0, 5, api.MaxText} {
			right := instr(formed(d, c, 1), at)
			for next := right.Next - 20; next <= right.Next+20; next++ {
				i := right
				i.Next = next
				if speaks(i) != (next == right.Next) {
					t.Errorf("%+v: stands %v", i, speaks(i))
				}
			}
			for _, next := range []int{math.MinInt, math.MaxInt, right.Next + 256, right.Next + 1<<32, -right.Next} {
				i := right
				i.Next = next
				if speaks(i) {
					t.Errorf("%+v stands", i)
				}
			}
		}
	}
}

// 6.5: Imm of every other length, Next being as that would have it; RJUMPV's with every k.
func TestStandsNotImm(t *testing.T) {
	for _, c := range leading {
		for n := range 12 {
			for k := range 6 {
				imm := make([]byte, n)
				if n > 0 {
					imm[0] = byte(k)
				}
				i := api.Instr{At: 3, Code: c, Imm: imm, Next: 4 + n}
				due := n == immediate(c, byte(k)) && n > 0
				if speaks(i) != due {
					t.Errorf("%+v: stands %v", i, speaks(i))
				}
				told(t, i)
			}
		}
	}
	for _, n := range []int{0, 1, 2, 3, 512, 513, 514, 1000} {
		imm := slices.Repeat([]byte{255}, n)
		i := api.Instr{At: 0, Code: 0xe2, Imm: imm, Next: 1 + n}
		if speaks(i) != (n == 513) {
			t.Errorf("%d bytes: stands %v", n, speaks(i))
		}
	}
}

// 6.5: a Code that is none of the table's: a byte that is no instruction, and numbers that are no bytes.
func TestStandsNotCode(t *testing.T) {
	for _, off := range []int{-512, -256, 256, 512, 65536, 1 << 32, -1 << 32, math.MinInt, 1 << 62} {
		for _, c := range leading {
			own := formed(chance(12), c, 0)
			i := instr(own, 0)
			i.Code = c + off
			if speaks(i) {
				t.Errorf("%+v stands", i)
			}
		}
	}
	for c := -300; c < 600; c++ {
		for n := range 5 {
			told(t, api.Instr{At: 7, Code: c, Imm: make([]byte, n), Next: 8 + n})
		}
	}
}

// 6.6, 6.7: every instruction: those that jump, those that name something, and all others none.
func TestLeadsAndNamedOfAll(t *testing.T) {
	d := chance(13)
	for _, c := range instructions() {
		for range 40 {
			i := instr(formed(d, c, byte(d.IntN(5))), d.IntN(70000))
			told(t, i)
			if speaks(i) != slices.Contains(leading, c) {
				t.Errorf("%+v: %v", i, speaks(i))
			}
		}
	}
}

// 6.6: every distance, below 0 and above, the least and the greatest; alone and within a table.
func TestLeadsEveryDistance(t *testing.T) {
	for distance := -32768; distance <= 32767; distance++ {
		for _, c := range []byte{0xe0, 0xe1} {
			if to := code.Leads(instr(jump(c, distance), 10)); len(to) != 1 || to[0] != 13+distance {
				t.Fatalf("%02x by %d: %v", c, distance, to)
			}
		}
		i := instr(jump(0xe2, 0, distance, -1, distance), 10)
		if to := code.Leads(i); !slices.Equal(to, []int{20, 20 + distance, 19, 20 + distance}) {
			t.Fatalf("a table with %d: %v", distance, to)
		}
	}
}

// 6.6: tables of every length, in order.
func TestLeadsTables(t *testing.T) {
	d := chance(14)
	for k := range 256 {
		var distances, want []int
		for range k + 1 {
			distances = append(distances, d.IntN(65536)-32768)
		}
		i := instr(jump(0xe2, distances...), d.IntN(api.MaxText+1))
		for _, distance := range distances {
			want = append(want, i.Next+distance)
		}
		if to := code.Leads(i); !slices.Equal(to, want) {
			t.Errorf("k %d: %v; due %v", k, to, want)
		}
	}
}

// 6.7: every number that can be named.
func TestNamedEveryNumber(t *testing.T) {
	for n := range 65536 {
		for _, c := range []byte{0xe3, 0xe5, 0xd1} {
			if m, ok := code.Named(instr([]byte{c, byte(n >> 8), byte(n)}, 2)); m != n || !ok {
				t.Fatalf("%02x %d: %d, %v", c, n, m, ok)
			}
		}
	}
	for n := range 256 {
		for _, c := range []byte{0xec, 0xee} {
			if m, ok := code.Named(instr([]byte{c, byte(n)}, 2)); m != n || !ok {
				t.Fatalf("%02x %d: %d, %v", c, n, m, ok)
			}
		}
	}
}
