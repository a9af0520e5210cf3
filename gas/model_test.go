package gas_test

import (
	"math"
	"math/big"
	"slices"

	"vouch/api"
)

// The models: what the chapter says, with plain numbers that have no bound.

func number(n uint64) *big.Int { return new(big.Int).SetUint64(n) }

func signed(n int) *big.Int { return big.NewInt(int64(n)) }

// over is n by d, rounded down, of an n that is not below 0.
func over(n *big.Int, d int64) *big.Int { return new(big.Int).Div(n, big.NewInt(d)) }

func times(n *big.Int, f int64) *big.Int { return new(big.Int).Mul(n, big.NewInt(f)) }

func plus(n, m *big.Int) *big.Int { return new(big.Int).Add(n, m) }

func less(n, m *big.Int) *big.Int { return new(big.Int).Sub(n, m) }

func greater(n, m *big.Int) *big.Int {
	if n.Cmp(m) < 0 {
		return m
	}
	return n
}

func lesser(n, m *big.Int) *big.Int {
	if n.Cmp(m) > 0 {
		return m
	}
	return n
}

func numberOf(x api.Word) *big.Int {
	n := new(big.Int)
	for i := len(x) - 1; i >= 0; i-- {
		n.Lsh(n, 64).Or(n, number(x[i]))
	}
	return n
}

// bounded is what 10.1 makes of a number of bytes, or of words.
func bounded(n int) *big.Int {
	return lesser(greater(signed(n), new(big.Int)), new(big.Int).Lsh(big.NewInt(1), 31))
}

func wordsModel(n int) *big.Int { return over(plus(bounded(n), big.NewInt(31)), 32) }

func memoryModel(w int) *big.Int {
	b := bounded(w)
	return plus(times(b, 3), over(new(big.Int).Mul(b, b), 512))
}

// expModel counts the bytes from the highest on: none ahead of the first that is not 0.
func expModel(x api.Word) *big.Int { return big.NewInt(50 * int64(len(numberOf(x).Bytes()))) }

// storeModel goes through the table of 10.4, row by row.
func storeModel(original, was, is api.Word) (uint64, int) {
	o, w, i := numberOf(original), numberOf(was), numberOf(is)
	none := func(n *big.Int) bool { return n.Sign() == 0 }
	same := func(n, m *big.Int) bool { return n.Cmp(m) == 0 }
	if same(i, w) {
		return 0, 0
	}
	if same(w, o) && none(o) {
		return 19900, 0
	}
	if same(w, o) && none(i) {
		return 2800, 4800
	}
	if same(w, o) {
		return 2800, 0
	}
	sum := 0
	for _, part := range []struct {
		applies bool
		refund  int
	}{
		{none(w) && !none(o), -4800}, {none(i) && !none(o), 4800}, {same(i, o) && none(o), 19900}, {same(i, o) && !none(o), 2800},
	} {
		if part.applies {
			sum += part.refund
		}
	}
	return 0, sum
}

func passModel(left uint64) (*big.Int, bool) {
	all := number(left)
	n := less(all, greater(over(all, 64), big.NewInt(5000)))
	if all.Cmp(big.NewInt(5000)) < 0 || n.Cmp(big.NewInt(2300)) < 0 {
		return new(big.Int), false
	}
	return n, true
}

func makeModel(left uint64) *big.Int { return less(number(left), over(number(left), 64)) }

// usedModel is given less left, or 0.
func usedModel(given, left uint64) *big.Int {
	return greater(less(number(given), number(left)), new(big.Int))
}

func backModel(given, left uint64, refund int) *big.Int {
	return lesser(greater(signed(refund), new(big.Int)), over(usedModel(given, left), 5))
}

// ints is every kind of number of bytes, or of words.
func ints() []int {
	l := []int{math.MinInt, math.MinInt + 1, -1 << 62, -1 << 32, -1 << 31, -1<<31 - 1, -33, -32, -31, -1, math.MaxInt - 31, math.MaxInt - 30, math.MaxInt - 1, math.MaxInt}
	for n := range 1100 {
		l = append(l, n)
	}
	for k := 11; k < 63; k++ {
		for d := -33; d <= 33; d++ {
			l = append(l, 1<<k+d)
		}
	}
	slices.Sort(l)
	return slices.Compact(l)
}

// gases is every kind of number of gas: about the bounds of 10.5, and about every power of 2.
func gases() []uint64 {
	l := []uint64{math.MaxUint64 - 1, math.MaxUint64}
	for _, about := range []uint64{100, 5000, 7300, 320000, 640000, api.MaxGas} {
		for d := range uint64(140) {
			l = append(l, about-70+d)
		}
	}
	for k := range 64 {
		for d := range uint64(5) {
			l = append(l, 1<<k-2+d)
		}
	}
	slices.Sort(l)
	return slices.Compact(l)
}

// draw is a row of numbers that looks like chance and is the same in each run.
type draw uint64

func (d *draw) next() uint64 {
	*d += 0x9e3779b97f4a7c15
	z := uint64(*d)
	z = (z ^ z>>30) * 0xbf58476d1ce4e5b9
	z = (z ^ z>>27) * 0x94d049bb133111eb
	return z ^ z>>31
}

func (d *draw) below(n int) int { return int(d.next() % uint64(n)) }

// gas is a number of any length, so that small ones come as often as great ones.
func (d *draw) gas() uint64 { return d.next() >> d.below(64) }

// count likewise, of either sign.
func (d *draw) count() int { return int(d.next()) >> d.below(64) }

// word is of any number of bytes, likewise.
func (d *draw) word() api.Word {
	var x api.Word
	for i := range d.below(33) {
		x[i/8] |= d.next() & 255 << (8 * (i % 8))
	}
	return x
}

func pick[T any](d *draw, l []T) T { return l[d.below(len(l))] }

// closeWords: 0, and words of which many differ in one part of 64 bits alone.
func closeWords() []api.Word {
	l := []api.Word{{}, {7, 7, 7, 7}, {math.MaxUint64, math.MaxUint64, math.MaxUint64, math.MaxUint64}}
	for i := range 4 {
		var alone, high api.Word
		alone[i], high[i] = 1, 1<<63
		near, gap := api.Word{7, 7, 7, 7}, api.Word{7, 7, 7, 7}
		near[i], gap[i] = 8, 0
		l = append(l, alone, high, near, gap)
	}
	return l
}
