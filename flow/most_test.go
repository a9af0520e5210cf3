package flow_test

import (
	"math"
	"slices"
	"testing"

	"vouch/api"
	"vouch/flow"
)

// 7.4: of none, of one, the greatest first, last and in the middle; Hi alone counts, whatever it is.
func TestMost(t *testing.T) {
	for _, x := range []struct {
		list []api.Height
		want int
	}{
		{nil, 0},
		{[]api.Height{}, 0},
		{heights(0, 0, 0), 0},
		{heights(0, 0, 5), 5},
		{heights(9, 8, 5), 5},
		{heights(0, 0, 9, 1, 1, 3, 2, 0, 4), 9},
		{heights(0, 0, 3, 1, 1, 9, 2, 0, 4), 9},
		{heights(0, 0, 3, 1, 1, 4, 2, 0, 9), 9},
		{heights(0, 0, 3, 1, 1, 9, 2, 0, 9), 9},
		{heights(7, 70, 3, 8, 80, 2), 3},
		{heights(0, 0, -3), -3},
		{heights(0, 0, -3, 0, 0, -2, 0, 0, -5), -2},
		{heights(0, 0, math.MinInt), math.MinInt},
		{heights(0, 0, math.MinInt, 0, 0, math.MaxInt, 0, 0, 1), math.MaxInt},
	} {
		if most := flow.Most(x.list); most != x.want {
			t.Errorf("Most(%v): %d", x.list, most)
		}
	}
	d := chance(30)
	for range 2000 {
		var list []api.Height
		var his []int
		for range 1 + d.IntN(20) {
			h := api.Height{At: d.IntN(99), Lo: d.IntN(99), Hi: d.IntN(2000) - 1000}
			list, his = append(list, h), append(his, h.Hi)
		}
		if most := flow.Most(list); most != slices.Max(his) {
			t.Errorf("Most(%v): %d", list, most)
		}
	}
}

// 7.5: RETF and JUMPF of each kind, of a section that is not there, behind the place where All stops; nothing else is asked.
func TestReturns(t *testing.T) {
	types := typed(0, never, 0, 0, 0, 0, 3, 127, 4, 0, never, 9, -1, 129, 5000, 0, -1, 0)
	for _, x := range []struct {
		text string
		want bool
	}{
		{"", false},
		{"00", false},
		{"e4", true},
		{"5f e4", true},
		{"00 e4", true},
		{"e4 00", true},
		{"e4 0c", true},
		{"e4 60", true},
		{"0c e4", false},
		{"5f 0c e4", false},
		{"5f 61 e4", false},
		{"60 e4", false},
		{"60 e4 00", false},
		{"e3 0001 00", false},
		{"e3 00e4 00", false},
		{"e0 00e4", false},
		{"e2 00 e4e4 00", false},
		{"e2 00 e4e4 e4", true},
		{"e5 0000", false},
		{"e5 0001", true},
		{"e5 0002", true},
		{"e5 0003", false},
		{"e5 0004", true},
		{"e5 0005", true},
		{"e5 0006", false},
		{"e5 0007", false},
		{"e5 0101", false},
		{"e5 0100", false},
		{"e5 ffff", false},
		{"e5 00", false},
		{"e5", false},
		{"e5 0003 e5 0000 e5 0001", true},
		{"e5 0003 e5 0000 e5 0009", false},
		{"e5 0009 e5 0002", true},
		{"e5 0003 0c e5 0001", false},
		{"5f 5f 50 e5 0002 00 5b", true},
	} {
		if got := flow.Returns(types, raw(x.text)); got != x.want {
			t.Errorf("Returns(%s): %v", x.text, got)
		}
		if got := flow.Returns(nil, raw(x.text)); got != (x.want && slices.Contains([]string{"e4", "5f e4", "00 e4", "e4 00", "e4 0c", "e4 60", "e2 00 e4e4 e4"}, x.text)) {
			t.Errorf("Returns of no types, %s: %v", x.text, got)
		}
	}
	many := append(slices.Repeat(typed(0, never, 0), 65535), api.Type{Out: 1})
	if !flow.Returns(many, raw("e5 ffff")) || flow.Returns(many[:65535], raw("e5 ffff")) || flow.Returns(many, raw("e5 fffe")) {
		t.Error("Returns of many types")
	}
}

// 7.5: over drawn sections and any bytes, against the model's instructions.
func TestReturnsDrawn(t *testing.T) {
	d := chance(31)
	met := map[bool]int{}
	for range 20000 {
		types, _, b := drawn(d)
		if d.IntN(2) == 0 {
			b[d.IntN(len(b))] = byte(d.Uint32())
		}
		all, _ := pieces(b)
		want := slices.ContainsFunc(all, func(p piece) bool {
			return p.code == 0xe4 || p.code == 0xe5 && p.number(0) < len(types) && types[p.number(0)].Out != never
		})
		met[want]++
		if got := flow.Returns(types, b); got != want {
			t.Fatalf("Returns(%v, % x): %v", types, b, got)
		}
	}
	if met[true] < 1000 || met[false] < 1000 {
		t.Error(met)
	}
}
