package code_test

import (
	"bytes"
	"fmt"
	"slices"
	"testing"

	"vouch/api"
	"vouch/code"
)

// scanned holds Scan, Starts and Check of a section against the model.
func scanned(t *testing.T, b []byte) {
	t.Helper()
	if wrong := unlike(b); wrong != "" {
		t.Fatal(wrong)
	}
}

// unlike says where Scan, Starts or Check answers otherwise than the model; nothing, if none does.
func unlike(b []byte) string {
	want, due, place := modelScan(b)
	all, wrong, at := code.Scan(b)
	if wrong != due || at != place || !slices.EqualFunc(all, want, same) || wrong != api.OK && all != nil {
		return fmt.Sprintf("Scan(% x): %+v, %d, %d; due %d, %d", b, all, wrong, at, due, place)
	}
	begins := make([]bool, len(b))
	given, _, _ := modelAll(b)
	for _, i := range given {
		begins[i.At] = true
	}
	if starts := code.Starts(b); !slices.Equal(starts, begins) {
		return fmt.Sprintf("Starts(% x): %v", b, starts)
	}
	due, place = modelCheck(b)
	if wrong, at := code.Check(b); wrong != due || at != place {
		return fmt.Sprintf("Check(% x): %d, %d; due %d, %d", b, wrong, at, due, place)
	}
	return ""
}

// 6.3, 6.4, 6.8: over sections of all kinds.
func TestScanAgainstModel(t *testing.T) {
	sections(t, func(b []byte) { scanned(t, b) })
}

// 6.3, R2: each error alone, and which comes first where several stand.
func TestScanErrors(t *testing.T) {
	for _, x := range []struct {
		text  string
		wrong api.Errno
		at    int
	}{
		{"0c", api.ErrOpcode, 0},
		{"5f 50 ff 00", api.ErrOpcode, 2},
		{"00 0c", api.ErrOpcode, 1},
		{"00 21 0c", api.ErrOpcode, 1},
		{"60", api.ErrImm, 0},
		{"00 7f 00", api.ErrImm, 1},
		{"5f e2 01 00 00 00", api.ErrImm, 1},
		{"5f e2", api.ErrImm, 1},
		{"e0 00", api.ErrImm, 0},
		{"5f", api.ErrOpen, 0},
		{"5f 60 00", api.ErrOpen, 1},
		{"00 5b", api.ErrOpen, 1},
		{"5f e2 00 00 00", api.ErrOpen, 1},
		{"5f e1 00 00", api.ErrOpen, 1},
		{"60 0c 0d 61", api.ErrOpcode, 2},
		{"61 0c", api.ErrImm, 0},
		{"0c 61", api.ErrOpcode, 0},
		{"5f 62 0c 0d", api.ErrImm, 1},
		{"e0 00 07 0c", api.ErrOpcode, 3},
		{"e0 00 07 61 00", api.ErrImm, 3},
		{"e0 00 07 5f", api.ErrOpen, 3},
	} {
		if all, wrong, at := code.Scan(raw(x.text)); all != nil || wrong != x.wrong || at != x.at {
			t.Errorf("Scan(%s): %+v, %d, %d", x.text, all, wrong, at)
		}
		if wrong, at := code.Check(raw(x.text)); wrong != x.wrong || at != x.at {
			t.Errorf("Check(%s): %d, %d", x.text, wrong, at)
		}
	}
}

// 6.3: every instruction as the last one: one that ends, one that does not; alone and behind others.
func TestScanLast(t *testing.T) {
	d := chance(6)
	for _, c := range instructions() {
		for _, front := range []string{"", "5f", "00", "60 00", "e2 00 00 00"} {
			b := append(raw(front), formed(d, c, 1)...)
			all, wrong, at := code.Scan(b)
			if last(c) && (wrong != api.OK || at != 0 || len(all) == 0) {
				t.Errorf("Scan(% x): %+v, %d, %d", b, all, wrong, at)
			}
			if !last(c) && (wrong != api.ErrOpen || at != len(raw(front)) || all != nil) {
				t.Errorf("Scan(% x): %+v, %d, %d", b, all, wrong, at)
			}
		}
	}
}

// 6.4: as long as b, behind where One stops answering too.
func TestStartsLength(t *testing.T) {
	for _, x := range []struct {
		text string
		at   []int
	}{
		{"", nil},
		{"0c", nil},
		{"0c 00 00", nil},
		{"61 00", nil},
		{"e2 00 00", nil},
		{"5f 5f 0c 00 00 5f", []int{0, 1}},
		{"60 00 00 62 00 00", []int{0, 2}},
		{"e2 01 00 00 00 00 00 5f", []int{0, 6, 7}},
		{"00 00 00", []int{0, 1, 2}},
		{"61 00 00 61 00 00", []int{0, 3}},
	} {
		want := make([]bool, len(raw(x.text)))
		for _, at := range x.at {
			want[at] = true
		}
		if starts := code.Starts(raw(x.text)); !slices.Equal(starts, want) {
			t.Errorf("Starts(%s): %v", x.text, starts)
		}
	}
}

// jump is the bytes of a jump by distances; RJUMPV's table has all of them.
func jump(c byte, distances ...int) []byte {
	b := []byte{c}
	if c == 0xe2 {
		b = append(b, byte(len(distances)-1))
	}
	for _, distance := range distances {
		b = append(b, byte(uint16(distance)>>8), byte(distance))
	}
	return b
}

// 6.8: every target: a start, within an instruction (the jump itself too), the end, below 0, above; of each jump.
func TestCheckEveryTarget(t *testing.T) {
	for _, c := range []byte{0xe0, 0xe1, 0xe2} {
		for distance := -40; distance <= 40; distance++ {
			b := slices.Concat(raw("5f 60 00 5b 5b 61 00 00 e4"), jump(c, distance), raw("62 00 00 00 5f 60 00 00"))
			begins := []int{0, 1, 3, 4, 5, 8, 9, len(jump(c, 0)) + 9, len(jump(c, 0)) + 13, len(jump(c, 0)) + 14, len(b) - 1}
			wrong, at := code.Check(b)
			if slices.Contains(begins, 9+len(jump(c, 0))+distance) {
				if wrong != api.OK || at != 0 {
					t.Errorf("%02x by %d: %d, %d", c, distance, wrong, at)
				}
			} else if wrong != api.ErrTarget || at != 9 {
				t.Errorf("%02x by %d: %d, %d", c, distance, wrong, at)
			}
			scanned(t, b)
		}
		for _, distance := range []int{-32768, -32767, -257, -256, 255, 256, 32767} {
			b := slices.Concat(raw("5b"), jump(c, distance), raw("00"))
			if wrong, at := code.Check(b); wrong != api.ErrTarget || at != 1 {
				t.Errorf("%02x by %d: %d, %d", c, distance, wrong, at)
			}
		}
	}
}

// 6.8: jumps as far as a distance reaches, and one place less.
func TestCheckFarJumps(t *testing.T) {
	nops := bytes.Repeat([]byte{0x5b}, 32768)
	for _, x := range []struct {
		ahead, distance, behind int
		wrong                   api.Errno
	}{
		{32765, -32768, 1, api.OK},
		{32764, -32768, 1, api.ErrTarget},
		{0, 32767, 32768, api.OK},
		{0, 32767, 32767, api.ErrTarget},
	} {
		b := slices.Concat(nops[:x.ahead], jump(0xe0, x.distance), nops[:x.behind-1], []byte{0})
		place := 0
		if x.wrong != api.OK {
			place = x.ahead
		}
		if wrong, at := code.Check(b); wrong != x.wrong || at != place {
			t.Errorf("by %d behind %d: %d, %d", x.distance, x.ahead, wrong, at)
		}
	}
}

// 6.8: the first instruction that leads astray is told, whichever of its jumps does; a jump behind one that ends is asked too.
func TestCheckFirst(t *testing.T) {
	for _, x := range []struct {
		b  []byte
		at int
	}{
		{slices.Concat(jump(0xe1, 0), jump(0xe1, 1), jump(0xe1, 9), raw("00")), 3},
		{slices.Concat(jump(0xe1, 9), jump(0xe1, 1), raw("00")), 0},
		{slices.Concat(raw("00"), jump(0xe0, 1)), 1},
		{slices.Concat(jump(0xe2, 0, 0, 1), raw("00")), 0},
		{slices.Concat(raw("5f"), jump(0xe2, 1, 0, 0), raw("00")), 1},
		{slices.Concat(raw("5f"), jump(0xe2, 0, -1, 0), raw("00")), 1},
		{slices.Concat(raw("5b"), jump(0xe2, make([]int, 256)...), jump(0xe0, 0)), 515},
		{slices.Concat(raw("5b"), jump(0xe2, append(make([]int, 255), 2)...), raw("00")), 1},
	} {
		if wrong, at := code.Check(x.b); wrong != api.ErrTarget || at != x.at {
			t.Errorf("Check(% x): %d, %d", x.b, wrong, at)
		}
	}
	for _, b := range [][]byte{
		slices.Concat(jump(0xe2, 0, 1, 2), raw("5b 5b 00")),
		slices.Concat(jump(0xe2, make([]int, 256)...), raw("00")),
		slices.Concat(raw("5b"), jump(0xe2, append(make([]int, 255), -515)...), raw("00")),
		slices.Concat(jump(0xe0, 1), raw("00"), jump(0xe0, -4)),
	} {
		if wrong, at := code.Check(b); wrong != api.OK || at != 0 {
			t.Errorf("Check(% x): %d, %d", b, wrong, at)
		}
	}
	// What CALLF and JUMPF name are no jumps of the section.
	if wrong, at := code.Check(raw("e3 00 09 e5 ff ff")); wrong != api.OK || at != 0 {
		t.Error(wrong, at)
	}
}

// 6.5, 6.8: an instruction above MaxText has no Leads, so nothing of it leads astray; one at MaxText has.
func TestCheckAtMaxText(t *testing.T) {
	ahead := append(bytes.Repeat(append([]byte{0x7f}, make([]byte, 32)...), api.MaxText/33), 0x5b)
	if len(ahead) != api.MaxText {
		t.Fatal(len(ahead))
	}
	if wrong, at := code.Check(slices.Concat(ahead, jump(0xe0, 1), raw("00"))); wrong != api.ErrTarget || at != api.MaxText {
		t.Error(wrong, at)
	}
	if wrong, at := code.Check(slices.Concat(ahead, jump(0xe0, 0), raw("00"))); wrong != api.OK || at != 0 {
		t.Error(wrong, at)
	}
	if wrong, at := code.Check(slices.Concat(ahead, raw("5b"), jump(0xe0, 1), raw("00"))); wrong != api.OK || at != 0 {
		t.Error(wrong, at)
	}
	all, wrong, at := code.Scan(append(ahead[:api.MaxText-1], 0xfe))
	if wrong != api.OK || at != 0 || len(all) != api.MaxText/33+1 {
		t.Fatal(len(all), wrong, at)
	}
	for _, i := range all {
		if !stands(i) {
			t.Fatalf("%+v does not stand", i)
		}
	}
}

// joined holds 6.9 of a section of which Scan answers OK.
func joined(t *testing.T, b []byte, all []api.Instr) {
	t.Helper()
	var own []byte
	next := 0
	for _, i := range all {
		if i.At != next {
			t.Fatalf("% x: one begins at %d, not at %d", b, i.At, next)
		}
		own = append(append(own, byte(i.Code)), i.Imm...)
		next = i.Next
	}
	if next != len(b) || !bytes.Equal(own, b) {
		t.Fatalf("% x: its instructions are % x, up to %d", b, own, next)
	}
}

// 6.9: over sections of every instruction one behind the other, and with other bytes ahead and behind.
func TestScanIsWhole(t *testing.T) {
	d := chance(7)
	for _, k := range []byte{0, 1, 255} {
		var b []byte
		for _, c := range instructions() {
			b = append(b, formed(d, c, k)...)
		}
		for _, front := range []string{"", "5f", "61 ff 0c", "e2 00 0c 0d"} {
			for _, back := range []string{"", "00", "60 0c fe", "e2 01 00 00 00 00 e4"} {
				whole := slices.Concat(raw(front), b, raw(back))
				all, wrong, at := code.Scan(whole)
				if wrong != api.OK || at != 0 || len(all) < 153 {
					t.Fatalf("%d, %d, %d", len(all), wrong, at)
				}
				joined(t, whole, all)
			}
		}
	}
	whole := 0
	sections(t, func(b []byte) {
		if all, wrong, _ := code.Scan(b); wrong == api.OK {
			joined(t, b, all)
			whole++
		}
	})
	if whole < 10000 {
		t.Errorf("only %d sections were whole", whole)
	}
}

// 6.9: each pair of instructions, one behind the other, the second one such as ends behind them.
func TestScanPairs(t *testing.T) {
	d := chance(8)
	for _, first := range instructions() {
		for _, second := range instructions() {
			b := slices.Concat(formed(d, first, byte(d.IntN(3))), formed(d, second, byte(d.IntN(3))), raw("00"))
			all, wrong, at := code.Scan(b)
			if wrong != api.OK || at != 0 || len(all) != 3 || all[0].Code != first || all[1].Code != second {
				t.Fatalf("Scan(% x): %+v, %d, %d", b, all, wrong, at)
			}
			joined(t, b, all)
		}
	}
}
