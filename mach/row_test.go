package mach_test

import (
	"bytes"
	"math"
	"testing"

	"vouch/api"
	"vouch/mach"
)

// plainRow is a row byte by byte, by plain numbers.
func plainRow(b []byte, at api.Word, n int) []byte {
	out := make([]byte, n)
	for i := range out {
		if at[1]|at[2]|at[3] == 0 && at[0] < uint64(len(b)) && at[0]+uint64(i) < uint64(len(b)) {
			out[i] = b[int(at[0])+i]
		}
	}
	return out
}

// 9.10: rows within, over the end, behind it, from any word on.
func TestRow(t *testing.T) {
	for _, size := range []int{0, 1, 2, 3, 31, 32, 33, 100} {
		b := filled(size)
		places := wordsAround()
		for i := range size + 3 {
			places = append(places, api.Word{uint64(i)})
		}
		for _, at := range places {
			for _, n := range []int{0, 1, 2, 3, 31, 32, 33, size, size + 1, 200} {
				got, e := mach.Row(b, at, n)
				if want := plainRow(b, at, n); e != api.OK || !bytes.Equal(got, want) {
					t.Errorf("of %d: Row at %v of %d: %v, %v, not %v", size, at, n, got, e, want)
				}
			}
		}
	}
}

// 9.10: at is a number as it is, not what an int would make of it.
func TestRowAtAboveAnyInt(t *testing.T) {
	b := filled(10)
	const all = math.MaxUint64
	for _, at := range []api.Word{{1 << 32}, {1<<32 + 1}, {1 << 63}, {1<<63 + 1}, {all}, {all - 3}, {1, 1}, {0, 0, 1}, {2, 0, 0, 1}, {0, 0, 0, 256}, {all, all, all, all}} {
		got, e := mach.Row(b, at, 5)
		if e != api.OK || !bytes.Equal(got, make([]byte, 5)) {
			t.Errorf("at %v: %v, %v", at, got, e)
		}
	}
}

// 9.10: n 0, at MaxMemory, and what is refused, wherever at is.
func TestRowOfHowMany(t *testing.T) {
	b := filled(40)
	for _, at := range []api.Word{{}, {3}, {40}, {0, 0, 0, 1}} {
		for _, n := range []int{-1, -32, math.MinInt, api.MaxMemory + 1, 1 << 32, math.MaxInt} {
			if got, e := mach.Row(b, at, n); e != api.ErrArg || len(got) != 0 {
				t.Errorf("%d bytes: %d bytes, %v", n, len(got), e)
			}
			if got, e := mach.Row(nil, at, n); e != api.ErrArg || len(got) != 0 {
				t.Errorf("%d bytes of none: %d bytes, %v", n, len(got), e)
			}
		}
		if got, e := mach.Row(b, at, 0); e != api.OK || len(got) != 0 {
			t.Errorf("no bytes: %v, %v", got, e)
		}
		got, e := mach.Row(b, at, api.MaxMemory)
		if e != api.OK || len(got) != api.MaxMemory || !bytes.Equal(got, plainRow(b, at, api.MaxMemory)) {
			t.Errorf("MaxMemory bytes: %d, %v", len(got), e)
		}
	}
}

// 9.10: bytes beyond MaxMemory are in a row too.
func TestRowOfManyBytes(t *testing.T) {
	b := filled(api.MaxMemory + 100)
	for _, at := range []int{0, 99, 100, 101, api.MaxMemory - 1, api.MaxMemory, api.MaxMemory + 99, api.MaxMemory + 100} {
		for _, n := range []int{1, 150, api.MaxMemory} {
			got, e := mach.Row(b, api.Word{uint64(at)}, n)
			want := make([]byte, n)
			copy(want, b[at:])
			if e != api.OK || !bytes.Equal(got, want) {
				t.Errorf("at %d of %d: %d bytes, %v", at, n, len(got), e)
			}
		}
	}
}

// 9.10: of no list, whatever is asked.
func TestRowOfNone(t *testing.T) {
	for _, b := range [][]byte{nil, {}, make([]byte, 0, 9)} {
		for _, at := range wordsAround() {
			if got, e := mach.Row(b, at, 3); e != api.OK || !bytes.Equal(got, []byte{0, 0, 0}) {
				t.Errorf("at %v: %v, %v", at, got, e)
			}
		}
	}
}
