package code_test

import (
	"slices"
	"testing"

	"vouch/api"
	"vouch/code"
)

// mixed is a section of instructions of several lengths.
func mixed() []byte { return raw("5f 60 01 7f" + thirtyTwo + "e1 00 00 e2 01 00 00 00 01 5b 00") }

const thirtyTwo = "000102030405060708090a0b0c0d0e0f101112131415161718191a1b1c1d1e1f"

// 6.2: ranged over whole, over sections of all kinds: as long as One answers one.
func TestAllWhole(t *testing.T) {
	sections(t, func(b []byte) {
		want, _, _ := modelAll(b)
		if got := slices.Collect(code.All(b)); !slices.EqualFunc(got, want, same) {
			t.Fatalf("All(% x): %+v", b, got)
		}
	})
}

// 6.2: where One stops answering: at a byte that is none, at immediate bytes that are cut, at the end.
func TestAllStops(t *testing.T) {
	for _, x := range []struct {
		text string
		at   []int
	}{
		{"", nil},
		{"0c", nil},
		{"60", nil},
		{"e2", nil},
		{"e2 00 00", nil},
		{"5f 0c 00 00", []int{0}},
		{"60 0c 0c 00", []int{0}},
		{"5f 5f 62 00 00", []int{0, 1}},
		{"5f e2 01 00 00 00", []int{0}},
		{"5f e2 00 00 00", []int{0, 1}},
		{"00 00 00", []int{0, 1, 2}},
		{"00 0c 00", []int{0}},
		{"60 01", []int{0}},
		{"60 01 61 00", []int{0}},
	} {
		var at []int
		for i := range code.All(raw(x.text)) {
			at = append(at, i.At)
		}
		if !slices.Equal(at, x.at) {
			t.Errorf("All(%s): at %v", x.text, at)
		}
	}
}

// 6.2: what All answers is never nil, and of no byte it gives none.
func TestAllOfNothing(t *testing.T) {
	for _, b := range [][]byte{nil, {}, {0x0c}, {0x60}, make([]byte, 0, 8)} {
		seq := code.All(b)
		if seq == nil {
			t.Fatalf("All(% x) is nil", b)
		}
		for i := range seq {
			t.Errorf("All(% x) gives %+v", b, i)
		}
	}
}

// 6.2: left early at each instruction, then no more is given; and ranged over again, from 0 on.
func TestAllLeftEarly(t *testing.T) {
	want, _, _ := modelAll(mixed())
	seq := code.All(mixed())
	for stop := range want {
		given := 0
		seq(func(i api.Instr) bool {
			if !same(i, want[given]) {
				t.Errorf("range %d gives %+v", stop, i)
			}
			given++
			return given <= stop
		})
		if given != stop+1 {
			t.Errorf("left at %d: %d were given", stop, given)
		}
	}
	for range 2 {
		if got := slices.Collect(seq); !slices.EqualFunc(got, want, same) {
			t.Errorf("again: %+v", got)
		}
	}
}

// 6.2: a range within its own loop begins at 0, and the outer one goes on as it would.
func TestAllWithinItself(t *testing.T) {
	want, _, _ := modelAll(mixed())
	seq := code.All(mixed())
	n := 0
	for outer := range seq {
		if !same(outer, want[n]) {
			t.Errorf("outer %d: %+v", n, outer)
		}
		m := 0
		for inner := range seq {
			if !same(inner, want[m]) {
				t.Errorf("inner %d of %d: %+v", m, n, inner)
			}
			m++
			if m > n {
				break
			}
		}
		if m != n+1 {
			t.Errorf("inner of %d gave %d", n, m)
		}
		n++
	}
	if n != len(want) {
		t.Errorf("outer gave %d", n)
	}
}

// 6.2, R3: what b held when All was called, though it is written over ahead of the range, and within it.
func TestAllHoldsWhatWas(t *testing.T) {
	want, _, _ := modelAll(mixed())
	for _, over := range []byte{0x00, 0x0c, 0x5f, 0x7f, 0xe2} {
		b := mixed()
		seq := code.All(b)
		for i := range b {
			b[i] = over
		}
		if got := slices.Collect(seq); !slices.EqualFunc(got, want, same) {
			t.Errorf("written over with %02x ahead of the range: %+v", over, got)
		}
		b = mixed()
		n := 0
		for i := range code.All(b) {
			if !same(i, want[n]) {
				t.Errorf("written over with %02x within the range: %+v", over, i)
			}
			n++
			for j := range b {
				b[j] = over
			}
		}
		if n != len(want) {
			t.Errorf("written over with %02x within the range: %d were given", over, n)
		}
	}
}
