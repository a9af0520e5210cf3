package gas_test

import (
	"math"
	"slices"
	"testing"

	"vouch/api"
	"vouch/gas"
)

// answered is what some calls have answered, one behind the other.
func answered(t *testing.T, row string, got, want []any) {
	t.Helper()
	if !slices.Equal(got, want) {
		t.Errorf("%s: %v, not %v", row, got, want)
	}
}

// each is what a call answers of each number.
func each[N, A any](call func(N) A, l ...N) []any {
	var out []any
	for _, n := range l {
		out = append(out, call(n))
	}
	return out
}

func costs(l ...uint64) []any { return each(func(n uint64) uint64 { return n }, l...) }

// The rows of 'Examples' with sizes and exponents.
func TestExamplesOfSizes(t *testing.T) {
	answered(t, "Words", each(gas.Words, 0, 1, 32, 33, -5), []any{0, 1, 1, 2, 0})
	answered(t, "Words of many", each(gas.Words, 1<<31, 1<<63-1), []any{67108864, 67108864})
	answered(t, "Memory", each(gas.Memory, 0, 1, 22, 23, 2048), costs(0, 3, 66, 70, 14336))
	answered(t, "Copy, Hash, Log, Deploy", []any{gas.Copy(33), gas.Hash(33), gas.Log(3), gas.Deploy(2)}, costs(6, 12, 24, 400))
	answered(t, "Exp", each(gas.Exp, api.Word{}, api.Word{255}, api.Word{256}, api.Word{0, 0, 0, 1 << 63}), costs(0, 50, 100, 1600))
}

// The rows of 'Examples' with Store.
func TestExamplesOfStore(t *testing.T) {
	for _, x := range []struct {
		original, was, is, cost uint64
		refund                  int
	}{
		{0, 0, 1, 19900, 0}, {0, 1, 0, 0, 19900}, {0, 1, 2, 0, 0}, {0, 0, 0, 0, 0},
		{5, 5, 0, 2800, 4800}, {5, 5, 6, 2800, 0}, {5, 0, 5, 0, -2000}, {5, 0, 6, 0, -4800}, {5, 6, 0, 0, 4800}, {5, 6, 5, 0, 2800},
	} {
		holdStore(t, api.Word{x.original}, api.Word{x.was}, api.Word{x.is}, x.cost, x.refund)
	}
}

// The rows of 'Examples' with Pass, Make and Back.
func TestExamplesOfPassing(t *testing.T) {
	var got []any
	for _, left := range []uint64{4999, 7299, 7300, 320000, 640000} {
		n, ok := gas.Pass(left)
		got = append(got, n, ok)
	}
	answered(t, "Pass", got, []any{uint64(0), false, uint64(0), false, uint64(2300), true, uint64(315000), true, uint64(630000), true})
	answered(t, "Make", each(gas.Make, 63, 64, 6400), costs(63, 63, 6300))
	answered(t, "Back", []any{gas.Back(100, 1, 50), gas.Back(100, 1, 7), gas.Back(100, 1, -7), gas.Back(1, 100, 50)}, costs(19, 7, 0, 0))
}

// The row of 'Examples' with a meter.
func TestExamplesOfMeters(t *testing.T) {
	m := gas.NewMeter(10)
	answered(t, "NewMeter(10)", []any{m.Pay(11), m.Pay(7), m.Left(), m.Gain(math.MaxUint64), m.Gain(2), m.Left()},
		[]any{false, true, uint64(3), false, true, uint64(5)})
}
