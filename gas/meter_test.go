package gas_test

import (
	"math"
	"math/big"
	"testing"

	"vouch/gas"
)

// meterModel has what was there at first, and all that was gained and paid, as plain numbers (10.8).
type meterModel struct{ first, gained, paid *big.Int }

func newMeterModel(left uint64) *meterModel {
	return &meterModel{number(left), new(big.Int), new(big.Int)}
}

func (m *meterModel) left() *big.Int { return less(plus(m.first, m.gained), m.paid) }

func (m *meterModel) pay(n uint64) bool {
	if m.left().Cmp(number(n)) < 0 {
		return false
	}
	m.paid.Add(m.paid, number(n))
	return true
}

func (m *meterModel) gain(n uint64) bool {
	if plus(m.left(), number(n)).Cmp(number(math.MaxUint64)) > 0 {
		return false
	}
	m.gained.Add(m.gained, number(n))
	return true
}

func holdMeter(t *testing.T, m *gas.Meter, model *meterModel) {
	t.Helper()
	if number(m.Left()).Cmp(model.left()) != 0 {
		t.Fatalf("Left: %d, not %d", m.Left(), model.left())
	}
}

// meterStep does one drawn call with a meter and with its model; the answers must be alike.
func meterStep(t *testing.T, d *draw, m *gas.Meter, model *meterModel) {
	t.Helper()
	left := m.Left()
	n := pick(d, []uint64{0, 1, d.gas(), left, left - 1, left + 1, left / 2, math.MaxUint64 - left, -left, math.MaxUint64 - left - 1, math.MaxUint64})
	got, want, name := false, false, "Pay"
	if d.below(2) == 0 {
		got, want = m.Pay(n), model.pay(n)
	} else {
		got, want, name = m.Gain(n), model.gain(n), "Gain"
	}
	if got != want {
		t.Fatalf("%s(%d) at %d: %v", name, n, left, got)
	}
	if !got && m.Left() != left {
		t.Fatalf("%s(%d) at %d is refused, and %d are left", name, n, left, m.Left())
	}
	holdMeter(t, m, model)
}

// 10.7, 10.8: drawn rows of calls on two meters in turns.
func TestMetersInTurns(t *testing.T) {
	d := draw(107)
	l := gases()
	for range 300 {
		first, second := pick(&d, l), pick(&d, l)
		m, other := gas.NewMeter(first), gas.NewMeter(second)
		model, otherModel := newMeterModel(first), newMeterModel(second)
		for range 100 {
			meterStep(t, &d, m, model)
			holdMeter(t, other, otherModel)
			meterStep(t, &d, other, otherModel)
			holdMeter(t, m, model)
		}
	}
}

// 10.7: a new meter has what it was given, whatever that is.
func TestNewMeter(t *testing.T) {
	for _, left := range gases() {
		if got := gas.NewMeter(left).Left(); got != left {
			t.Errorf("NewMeter(%d): %d left", left, got)
		}
	}
}

// 10.7: Pay and Gain at the last number that is taken, and one past it; a refused call changes nothing.
func TestMeterAtTheEdges(t *testing.T) {
	const all = math.MaxUint64
	for _, x := range []struct {
		left       uint64
		pay        bool
		n          uint64
		ok         bool
		leftBehind uint64
	}{
		{0, true, 0, true, 0}, {0, true, 1, false, 0}, {0, true, all, false, 0},
		{0, false, 0, true, 0}, {0, false, 1, true, 1}, {0, false, all, true, all},
		{all, true, 0, true, all}, {all, true, 1, true, all - 1}, {all, true, all - 1, true, 1}, {all, true, all, true, 0},
		{all, false, 0, true, all}, {all, false, 1, false, all}, {all, false, all, false, all},
		{all - 1, true, all, false, all - 1}, {all - 1, false, 1, true, all}, {all - 1, false, 2, false, all - 1},
		{7, true, 6, true, 1}, {7, true, 7, true, 0}, {7, true, 8, false, 7}, {7, true, all, false, 7},
		{7, false, all - 7, true, all}, {7, false, all - 6, false, 7}, {7, false, all, false, 7},
		{1 << 63, false, 1<<63 - 1, true, all}, {1 << 63, false, 1 << 63, false, 1 << 63}, {1 << 63, true, 1<<63 + 1, false, 1 << 63},
	} {
		m := gas.NewMeter(x.left)
		call := m.Gain
		if x.pay {
			call = m.Pay
		}
		if ok := call(x.n); ok != x.ok || m.Left() != x.leftBehind {
			t.Errorf("of %d, pay %v, %d: %v, %d left", x.left, x.pay, x.n, ok, m.Left())
		}
	}
}

// payAll pays from a meter that it was handed.
func payAll(m *gas.Meter, l ...uint64) bool {
	for _, n := range l {
		if !m.Pay(n) {
			return false
		}
	}
	return true
}

// 10.7, 'Ways': a meter that was handed on is the same one.
func TestMeterHandedOn(t *testing.T) {
	m := gas.NewMeter(100)
	if !payAll(m, 10, 20) || m.Left() != 70 {
		t.Errorf("behind 10 and 20: %d left", m.Left())
	}
	kept := struct{ meter *gas.Meter }{m}
	pay, gain, left := kept.meter.Pay, kept.meter.Gain, kept.meter.Left
	if !pay(30) || m.Left() != 40 || left() != 40 {
		t.Errorf("behind 30: %d left, %d by the other name", m.Left(), left())
	}
	if !m.Gain(5) || left() != 45 || !gain(6) || m.Left() != 51 {
		t.Errorf("behind 5 and 6: %d left, %d by the other name", m.Left(), left())
	}
	if payAll(m, 50, 2) || left() != 1 {
		t.Errorf("behind 50: %d left", left())
	}
}

// 10.8: many small payments and gains leave what their sums leave.
func TestMeterLosesNothing(t *testing.T) {
	m := gas.NewMeter(1 << 40)
	var paid, gained uint64
	for n := range uint64(10000) {
		if !m.Pay(3*n) || !m.Gain(n) {
			t.Fatalf("%d: refused", n)
		}
		paid, gained = paid+3*n, gained+n
	}
	if m.Left() != 1<<40+gained-paid {
		t.Errorf("%d left, not %d", m.Left(), 1<<40+gained-paid)
	}
}
