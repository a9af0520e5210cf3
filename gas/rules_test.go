package gas_test

import (
	"slices"
	"sync"
	"testing"

	"vouch/api"
	"vouch/gas"
)

// all is what every call answers, of the numbers and words that it is given, and of a meter that goes through some of them.
func all(n int, x, y, z api.Word, g, h uint64) []any {
	var out []any
	for _, c := range sizeCalls() {
		out = append(out, c.call(n))
	}
	cost, refund := gas.Store(x, y, z)
	passes, ok := gas.Pass(g)
	out = append(out, gas.Exp(x), cost, refund, passes, ok, gas.Make(g), gas.Back(g, h, n))
	m := gas.NewMeter(g)
	return append(out, m.Left(), m.Pay(h), m.Gain(g), m.Left(), m.Gain(h), m.Pay(g), m.Left())
}

// R1: no call panics, at any argument.
func TestNoCallPanics(t *testing.T) {
	d := draw(1)
	numbers, words, amounts := ints(), closeWords(), gases()
	for range 30000 {
		all(pick(&d, numbers), pick(&d, words), pick(&d, words), pick(&d, words), pick(&d, amounts), pick(&d, amounts))
		all(d.count(), d.word(), d.word(), d.word(), d.gas(), d.gas())
	}
	for _, n := range numbers {
		for _, g := range amounts[len(amounts)-8:] {
			gas.Back(g, 0, n)
			gas.Back(0, g, n)
		}
	}
}

// R4: the same call answers the same again, with others in between.
func TestTheSameAgain(t *testing.T) {
	d := draw(4)
	for range 5000 {
		n, x, y, z, g, h := d.count(), d.word(), d.word(), d.word(), d.gas(), d.gas()
		first := all(n, x, y, z, g, h)
		all(d.count(), d.word(), d.word(), d.word(), d.gas(), d.gas())
		if second := all(n, x, y, z, g, h); !slices.Equal(first, second) {
			t.Fatalf("%d, %x, %x, %x, %d, %d: %v, then %v", n, x, y, z, g, h, first, second)
		}
	}
}

// R4: meters that are used at the same time, each by one goroutine, have nothing in common.
func TestSideBySide(t *testing.T) {
	var joined sync.WaitGroup
	wrong := make([]bool, 8)
	for i := range wrong {
		joined.Go(func() {
			m := gas.NewMeter(uint64(1000 * i))
			for k := range uint64(2000) {
				wrong[i] = wrong[i] || !m.Gain(k) || !m.Pay(k) || m.Left() != uint64(1000*i)
			}
		})
	}
	joined.Wait()
	if slices.Contains(wrong, true) {
		t.Errorf("%v", wrong)
	}
}
