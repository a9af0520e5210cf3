package gas_test

import (
	"math"
	"testing"

	"vouch/gas"
)

// 10.5: Pass at its edges, in numbers written out.
func TestPassAtTheEdges(t *testing.T) {
	for _, x := range []struct {
		left, want uint64
		ok         bool
	}{
		{0, 0, false}, {1, 0, false}, {4999, 0, false}, {5000, 0, false}, {5001, 0, false}, {7299, 0, false},
		{7300, 2300, true}, {7301, 2301, true},
		{319999, 314999, true}, {320000, 315000, true}, {320001, 315001, true}, {320063, 315063, true},
		{320064, 315063, true}, {320065, 315064, true}, {320127, 315126, true}, {320128, 315126, true},
		{math.MaxUint64 - 1, 1<<64 - 1<<58 - 1, true}, {math.MaxUint64, 1<<64 - 1<<58, true},
	} {
		if n, ok := gas.Pass(x.left); n != x.want || ok != x.ok {
			t.Errorf("Pass(%d): %d, %v, not %d, %v", x.left, n, ok, x.want, x.ok)
		}
	}
}

// 10.5: Make at its edges, in numbers written out.
func TestMakeAtTheEdges(t *testing.T) {
	for _, x := range []struct{ left, want uint64 }{
		{0, 0}, {1, 1}, {62, 62}, {63, 63}, {64, 63}, {65, 64}, {127, 126}, {128, 126}, {4999, 4921}, {5000, 4922},
		{7299, 7185}, {7300, 7186}, {319999, 315000}, {320000, 315000}, {320001, 315001},
		{math.MaxUint64 - 1, 1<<64 - 1<<58 - 1}, {math.MaxUint64, 1<<64 - 1<<58},
	} {
		if n := gas.Make(x.left); n != x.want {
			t.Errorf("Make(%d): %d, not %d", x.left, n, x.want)
		}
	}
}

// drawnGases are the kinds of numbers of gas, and drawn ones.
func drawnGases(seed draw) []uint64 {
	l := gases()
	for n := range uint64(12000) {
		l = append(l, n)
	}
	for range 20000 {
		l = append(l, seed.gas())
	}
	return l
}

// 10.5: Pass and Make against plain numbers.
func TestPassAndMake(t *testing.T) {
	for _, left := range drawnGases(105) {
		want, wantOk := passModel(left)
		if n, ok := gas.Pass(left); number(n).Cmp(want) != 0 || ok != wantOk {
			t.Errorf("Pass(%d): %d, %v, not %d, %v", left, n, ok, want, wantOk)
		}
		if n, want := gas.Make(left), makeModel(left); number(n).Cmp(want) != 0 {
			t.Errorf("Make(%d): %d, not %d", left, n, want)
		}
	}
}

// 10.6: Back at its edges, in numbers written out.
func TestBackAtTheEdges(t *testing.T) {
	const all, fifth = math.MaxUint64, math.MaxUint64 / 5
	for _, x := range []struct {
		given, left uint64
		refund      int
		want        uint64
	}{
		{0, 0, 0, 0}, {0, 0, 9, 0}, {9, 9, 9, 0}, {9, 5, 9, 0}, {9, 4, 9, 1}, {10, 0, 9, 2}, {9, 0, 9, 1},
		{100, 0, -1, 0}, {100, 0, 0, 0}, {100, 0, 1, 1}, {100, 0, 19, 19}, {100, 0, 20, 20}, {100, 0, 21, 20},
		{100, 0, math.MinInt, 0}, {100, 0, math.MaxInt, 20},
		{1, 2, 5, 0}, {1, 100, 50, 0}, {0, all, math.MaxInt, 0}, {all - 1, all, math.MaxInt, 0}, {99, 100, -1, 0},
		{all, 0, math.MaxInt, fifth}, {all, 0, fifth + 1, fifth}, {all, 0, fifth, fifth}, {all, 0, fifth - 1, fifth - 1},
		{all, 0, 0, 0}, {all, 0, -1, 0}, {all, 0, math.MinInt, 0},
		{all, all, math.MaxInt, 0}, {all, all - 4, math.MaxInt, 0}, {all, all - 5, math.MaxInt, 1}, {all, 1, math.MaxInt, fifth - 1},
	} {
		if n := gas.Back(x.given, x.left, x.refund); n != x.want {
			t.Errorf("Back(%d, %d, %d): %d, not %d", x.given, x.left, x.refund, n, x.want)
		}
	}
}

// 10.6: Back against plain numbers: of drawn ones, and with refunds about the fifth.
func TestBack(t *testing.T) {
	d := draw(106)
	l := gases()
	hold := func(given, left uint64, refund int) {
		if n, want := gas.Back(given, left, refund), backModel(given, left, refund); number(n).Cmp(want) != 0 {
			t.Errorf("Back(%d, %d, %d): %d, not %d", given, left, refund, n, want)
		}
	}
	for range 20000 {
		given, left := d.gas(), d.gas()
		if d.below(2) == 0 {
			given, left = pick(&d, l), pick(&d, l)
		}
		hold(given, left, d.count())
		hold(given, left, pick(&d, []int{math.MinInt, -1, 0, 1, math.MaxInt}))
		about := int(over(usedModel(given, left), 5).Int64())
		for by := -1; by <= 1; by++ {
			hold(given, left, about+by)
		}
	}
}
