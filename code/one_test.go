package code_test

import (
	"math"
	"slices"
	"testing"

	"vouch/api"
	"vouch/code"
)

// one holds One against an answer that is due; with an error beside the zero value.
func one(t *testing.T, b []byte, at int, want api.Instr, due api.Errno) {
	t.Helper()
	i, wrong := code.One(b, at)
	if wrong != due || !same(i, want) || wrong != api.OK && !zero(i) {
		t.Errorf("One(% x, %d): %+v, %d; due %+v, %d", b, at, i, wrong, want, due)
	}
}

// 6.1: every byte as an instruction, at each of several places, with all of its immediate bytes, with each number of fewer, with none, and with more behind.
func TestOneEveryByte(t *testing.T) {
	d := chance(2)
	for c := range 256 {
		for ahead := range 6 {
			front := formed(d, 0x7f, 0)[:ahead]
			if !there(c) {
				one(t, append(slices.Clone(front), byte(c)), ahead, api.Instr{}, api.ErrOpcode)
				one(t, append(slices.Clone(front), byte(c), 0, 0, 0), ahead, api.Instr{}, api.ErrOpcode)
				continue
			}
			own := formed(d, c, 2)
			want := instr(own, ahead)
			b := append(slices.Clone(front), own...)
			one(t, b, ahead, want, api.OK)
			one(t, append(slices.Clone(b), formed(d, 0x64, 0)...), ahead, want, api.OK)
			for cut := ahead + 1; cut < len(b); cut++ {
				one(t, b[:cut:cut], ahead, api.Instr{}, api.ErrImm)
			}
		}
	}
}

// 6.1: a table of jumps with every k; with k 0, 1 and 255 cut at each byte.
func TestOneTables(t *testing.T) {
	d := chance(3)
	for k := range 256 {
		own := formed(d, 0xe2, byte(k))
		if len(own) != 1+1+2*(k+1) {
			t.Fatal("the model's table is wrong")
		}
		b := append([]byte{0x5f}, own...)
		one(t, b, 1, instr(own, 1), api.OK)
		one(t, append(slices.Clone(b), 0xe2, 0xff), 1, instr(own, 1), api.OK)
		one(t, b[:len(b)-1], 1, api.Instr{}, api.ErrImm)
		one(t, b[:3], 1, api.Instr{}, api.ErrImm)
		one(t, b[:2], 1, api.Instr{}, api.ErrImm)
		if k != 0 && k != 1 && k != 255 {
			continue
		}
		for cut := 2; cut < len(b); cut++ {
			one(t, b[:cut], 1, api.Instr{}, api.ErrImm)
		}
	}
}

// 6.1: places below 0, at the length and above it, ahead of what the bytes are.
func TestOnePlaces(t *testing.T) {
	for _, b := range [][]byte{nil, {}, {0}, {0x0c}, {0x60}, raw("60 07 00"), raw("00 00 00 00 00 00 00")} {
		for _, at := range []int{math.MinInt, math.MinInt32, -65536, -256, -2, -1} {
			one(t, b, at, api.Instr{}, api.ErrArg)
		}
		for _, at := range []int{len(b), len(b) + 1, len(b) + 2, 256, 65536, math.MaxInt32, math.MaxUint32, math.MaxInt - 1, math.MaxInt} {
			one(t, b, at, api.Instr{}, api.ErrArg)
		}
	}
}

// 6.1, R4: what lies in a list's spare room stands not in it.
func TestOneSpareRoom(t *testing.T) {
	b := raw("61 07 08 e2 00 00 00 00")
	one(t, b[:2], 0, api.Instr{}, api.ErrImm)
	one(t, b[:4], 3, api.Instr{}, api.ErrImm)
	one(t, b[:6], 3, api.Instr{}, api.ErrImm)
	one(t, b[:3], 3, api.Instr{}, api.ErrArg)
	one(t, b[:0], 0, api.Instr{}, api.ErrArg)
}

// 6.1, 6.4: places within an instruction are places too: One at every place of sections of all kinds.
func TestOneEveryPlace(t *testing.T) {
	d := chance(4)
	for range 5000 {
		b := drawn(d)
		for at := -1; at <= len(b); at++ {
			want, due := modelOne(b, at)
			one(t, b, at, want, due)
		}
	}
}

// 6.10: what stands ahead of an instruction and behind it is all one.
func TestOneOwnBytesAlone(t *testing.T) {
	d := chance(5)
	fill := func(b []byte) {
		for i := range b {
			b[i] = byte(d.Uint32())
		}
	}
	for _, c := range instructions() {
		for _, k := range []byte{0, 1, 3, 255} {
			own := formed(d, c, k)
			for range 10 {
				at := d.IntN(40)
				b := make([]byte, at+len(own)+d.IntN(40))
				fill(b)
				copy(b[at:], own)
				for range 4 {
					one(t, b, at, instr(own, at), api.OK)
					fill(b[:at])
					fill(b[at+len(own):])
				}
				one(t, b[:at+len(own)], at, instr(own, at), api.OK)
			}
		}
	}
}
