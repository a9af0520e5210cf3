package gas_test

import (
	"math/big"
	"slices"
	"testing"

	"vouch/api"
	"vouch/gas"
)

// 10.9: what passes, and 5000, are together at most left; what passes is at least 2300; with more gas no less passes.
func TestWhatPasses(t *testing.T) {
	l := drawnGases(109)
	slices.Sort(l)
	before := uint64(0)
	for _, left := range l {
		n, ok := gas.Pass(left)
		if ok && (plus(number(n), big.NewInt(5000)).Cmp(number(left)) > 0 || n < 2300) || !ok && n != 0 {
			t.Errorf("Pass(%d): %d, %v", left, n, ok)
		}
		if n < before {
			t.Errorf("Pass(%d): %d, with less gas %d", left, n, before)
		}
		before = n
	}
}

// 10.9: Make never gives less with more; what it keeps is at most a 64th.
func TestWhatMakes(t *testing.T) {
	l := drawnGases(110)
	slices.Sort(l)
	before := uint64(0)
	for _, left := range l {
		n := gas.Make(left)
		kept := less(number(left), number(n))
		if kept.Sign() < 0 || times(kept, 64).Cmp(number(left)) > 0 {
			t.Errorf("Make(%d): %d", left, n)
		}
		if n < before {
			t.Errorf("Make(%d): %d, with less gas %d", left, n, before)
		}
		before = n
	}
}

// 10.9: Back is never above the refund (or 0), nor above a fifth of what was used.
func TestWhatIsGivenBack(t *testing.T) {
	d := draw(111)
	l := gases()
	for range 40000 {
		given, left, refund := d.gas(), d.gas(), d.count()
		if d.below(3) == 0 {
			given = pick(&d, l)
		}
		n := number(gas.Back(given, left, refund))
		if n.Cmp(greater(signed(refund), new(big.Int))) > 0 || times(n, 5).Cmp(usedModel(given, left)) > 0 {
			t.Errorf("Back(%d, %d, %d): %d", given, left, refund, n)
		}
	}
}

// 10.9: of two numbers of words, a at most b, Memory(b) is at least Memory(a) and 3 (b - a) together.
func TestMoreMemoryCostsMore(t *testing.T) {
	d := draw(112)
	l := slices.DeleteFunc(ints(), func(n int) bool { return n < 0 || n > 1<<31 })
	for range 40000 {
		a, b := pick(&d, l), pick(&d, l)
		if d.below(2) == 0 {
			a, b = d.below(1<<31+1), d.below(1<<31+1)
		}
		a, b = min(a, b), max(a, b)
		if gas.Memory(b) < gas.Memory(a)+3*uint64(b-a) {
			t.Errorf("Memory(%d): %d; of %d: %d", a, gas.Memory(a), b, gas.Memory(b))
		}
	}
	for a := range 5000 {
		if gas.Memory(a+1) < gas.Memory(a)+3 {
			t.Errorf("Memory(%d): %d; of one more: %d", a, gas.Memory(a), gas.Memory(a+1))
		}
	}
}

// told is what the original and the last word alone tell of all costs less all refunds (10.10).
func told(original, last api.Word) int {
	var none api.Word
	switch {
	case last == original:
		return 0
	case original == none:
		return 19900
	case last == none:
		return -2000
	}
	return 2800
}

// holdWrites writes words into one slot, and holds the sums behind each of them.
func holdWrites(t *testing.T, original api.Word, row []api.Word) {
	t.Helper()
	costs, refunds, there := 0, 0, original
	for i, is := range row {
		cost, refund := gas.Store(original, there, is)
		costs, refunds, there = costs+int(cost), refunds+refund, is
		if refunds < 0 {
			t.Fatalf("from %x on %x: the refunds are together %d", original, row[:i+1], refunds)
		}
		if costs-refunds != told(original, is) {
			t.Fatalf("from %x on %x: costs %d, refunds %d", original, row[:i+1], costs, refunds)
		}
	}
}

// 10.10: all rows of up to six words out of 0 and three others, from 0 and from a word on.
func TestAllShortWrites(t *testing.T) {
	few := []api.Word{{}, {5}, {6}, {0, 0, 0, 5}}
	for _, original := range few[:2] {
		for n := range 1 << 12 {
			var row []api.Word
			for i := range 6 {
				row = append(row, few[n>>(2*i)&3])
			}
			holdWrites(t, original, row)
		}
	}
}

// 10.10: long drawn rows, 0 and the original often among them.
func TestDrawnWrites(t *testing.T) {
	d := draw(113)
	l := closeWords()
	for range 400 {
		original := pick(&d, []api.Word{{}, d.word(), pick(&d, l)})
		few := []api.Word{{}, original, pick(&d, l), d.word()}
		var row []api.Word
		for range 60 {
			row = append(row, pick(&d, few))
		}
		holdWrites(t, original, row)
	}
}
