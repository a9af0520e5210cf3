package flow_test

import (
	"math/rand/v2"
	"slices"
	"testing"

	"vouch/api"
	"vouch/flow"
)

// draft is an instruction that is not laid out yet: its jumps lead to others by their numbers.
type draft struct {
	b  []byte
	to []int
}

// laid is the bytes of a section of drafts.
func laid(drafts []draft) []byte {
	places := []int{0}
	for i, x := range drafts {
		places = append(places, places[i]+len(x.b))
	}
	var b []byte
	for i, x := range drafts {
		own := slices.Clone(x.b)
		for n, to := range x.to {
			distance := places[to] - places[i+1]
			at := len(own) - 2*(len(x.to)-n)
			own[at], own[at+1] = byte(uint16(distance)>>8), byte(distance)
		}
		b = append(b, own...)
	}
	return b
}

// drawnTypes are the types of a few sections, their numbers small for the most part.
func drawnTypes(d *rand.Rand) []api.Type {
	types := make([]api.Type, 1+d.IntN(5))
	for i := range types {
		types[i] = api.Type{In: d.IntN(5), Out: d.IntN(4), Most: d.IntN(9)}
		if d.IntN(3) == 0 {
			types[i].Out = never
		}
		if d.IntN(8) == 0 {
			types[i].Most = 1018 + d.IntN(6)
		}
	}
	return types
}

// target is an instruction for a jump to lead to: mostly one a little further on.
func target(d *rand.Rand, from, n int) int {
	if d.IntN(5) == 0 {
		return d.IntN(from + 1)
	}
	return min(n-1, from+1+d.IntN(4))
}

// drawnDraft is the instruction with this number, of n.
func drawnDraft(d *rand.Rand, types []api.Type, from, n int) draft {
	name := byte(d.IntN(len(types)))
	switch d.IntN(24) {
	case 0:
		return draft{jump(0xe0, 0), []int{target(d, from, n)}}
	case 1, 2, 11, 12:
		return draft{jump(0xe1, 0), []int{target(d, from, n)}}
	case 3:
		to := make([]int, 1+d.IntN(4))
		for i := range to {
			to[i] = target(d, from, n)
		}
		return draft{jump(0xe2, make([]int, len(to))...), to}
	case 4:
		return draft{[]byte{0xe3, 0, name}, nil}
	case 5:
		return draft{[]byte{0xe6, byte(d.IntN(3))}, nil}
	case 6, 7:
		return draft{[]byte{0x50}, nil}
	case 8:
		return draft{[]byte{[]byte{0x01, 0x15, 0x80, 0x90, 0xa0, 0x52}[d.IntN(6)]}, nil}
	case 9, 13, 14:
		return draft{[]byte{0x5b}, nil}
	case 10:
		return draft{[][]byte{{0x00}, {0xe4}, {0xe5, 0, name}, {0xfe}}[d.IntN(4)], nil}
	}
	return draft{[]byte{0x5f}, nil}
}

// drawn is a section with types, most of them such as may be.
func drawn(d *rand.Rand) ([]api.Type, int, []byte) {
	types := drawnTypes(d)
	section := d.IntN(len(types))
	n := 1 + d.IntN(14)
	var drafts []draft
	for from := range n - 1 {
		drafts = append(drafts, drawnDraft(d, types, from, n))
	}
	end := draft{[]byte{0x00}, nil}
	switch {
	case types[section].Out != never && d.IntN(3) > 0:
		end = draft{[]byte{0xe4}, nil}
	case d.IntN(3) == 0:
		end = draft{[]byte{0xe5, 0, byte(d.IntN(len(types)))}, nil}
	case d.IntN(3) == 0:
		end = draft{jump(0xe0, 0), []int{d.IntN(n)}}
	}
	return types, section, laid(append(drafts, end))
}

// goes calls f with so many drawn sections of some length of which heights are told, and with these.
func goes(t *testing.T, seed uint64, many int, f func(types []api.Type, section int, b []byte, told []api.Height)) {
	t.Helper()
	d := chance(seed)
	for many > 0 {
		types, section, b := drawn(d)
		if told, wrong, _ := flow.Heights(types, section, b); wrong == api.OK && len(told) > 4 {
			f(types, section, b, told)
			many--
		}
	}
}

// 7.1 to 7.3: over drawn sections, as many as bring each error and each kind of way about.
func TestDrawn(t *testing.T) {
	d := chance(1)
	met := map[api.Errno]int{}
	back := 0
	for range 60000 {
		types, section, b := drawn(d)
		held(t, types, section, b)
		told, wrong, _ := flow.Heights(types, section, b)
		met[wrong]++
		if wrong == api.OK && leadsBack(b) && slices.ContainsFunc(told, func(h api.Height) bool { return h.Lo < h.Hi }) {
			back++
		}
	}
	for _, wrong := range []api.Errno{api.OK, api.ErrArg, api.ErrDead, api.ErrUnder, api.ErrOver, api.ErrReturn, api.ErrLoop} {
		if met[wrong] < 100 {
			t.Errorf("only %d of %d", met[wrong], wrong)
		}
	}
	if back < 100 {
		t.Errorf("only %d with jumps back and hulls", back)
	}
}

// leadsBack: has the section a jump to its own place, or to one ahead of it?
func leadsBack(b []byte) bool {
	all, _ := pieces(b)
	return slices.ContainsFunc(all, func(p piece) bool {
		return slices.ContainsFunc(p.targets(), func(to int) bool { return to <= p.at })
	})
}

// 7.1 to 7.3: all sections of a few instructions, with types of several kinds.
func TestAllShort(t *testing.T) {
	letters := []string{"00", "5f", "50", "5b", "e0 0000", "e0 0001", "e0 fffd", "e1 0000", "e1 0001", "e1 fffc", "e2 01 0000 0001", "e3 0001", "e4", "e5 0001"}
	rows := [][]api.Type{typed(0, never, 0), typed(0, never, 0, 1, 2, 3), typed(1, 1, 0, 1, 1, 1), typed(1, 2, 0, 0, 1, 1), typed(2, 0, 0, 1, never, 1022)}
	var fill func(b []byte, n int)
	fill = func(b []byte, n int) {
		for _, types := range rows {
			held(t, types, 0, b)
		}
		if n == 0 {
			return
		}
		for _, letter := range letters {
			fill(slices.Concat(b, raw(letter)), n-1)
		}
	}
	fill(nil, 4)
}

// 7.1: bytes of any kind.
func TestAnyBytes(t *testing.T) {
	d := chance(2)
	for range 20000 {
		types, section, b := drawn(d)
		for range 1 + d.IntN(3) {
			b[d.IntN(len(b))] = byte(d.Uint32())
		}
		held(t, types, section, b)
		held(t, types, section, b[:d.IntN(len(b)+1)])
		wild := make([]byte, d.IntN(9))
		for i := range wild {
			wild[i] = byte(d.Uint32())
		}
		held(t, types, section, wild)
	}
}
