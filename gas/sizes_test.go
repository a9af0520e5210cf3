package gas_test

import (
	"math"
	"math/big"
	"testing"

	"vouch/gas"
)

// sizeCalls are the calls of 10.2, with what each says of a number by its model.
func sizeCalls() []struct {
	name  string
	call  func(int) uint64
	model func(int) *big.Int
} {
	return []struct {
		name  string
		call  func(int) uint64
		model func(int) *big.Int
	}{
		{"Words", func(n int) uint64 { return uint64(gas.Words(n)) }, wordsModel},
		{"Memory", gas.Memory, memoryModel},
		{"Copy", gas.Copy, func(n int) *big.Int { return times(wordsModel(n), 3) }},
		{"Hash", gas.Hash, func(n int) *big.Int { return times(wordsModel(n), 6) }},
		{"Log", gas.Log, func(n int) *big.Int { return times(bounded(n), 8) }},
		{"Deploy", gas.Deploy, func(n int) *big.Int { return times(bounded(n), 200) }},
	}
}

// 10.1, 10.2: each call at the edges that the chapter names, in numbers written out.
func TestSizesAtTheEdges(t *testing.T) {
	for _, x := range []struct{ n, words, memory, copied, hashed, logged, laid int }{
		{math.MinInt, 0, 0, 0, 0, 0, 0},
		{-1 << 31, 0, 0, 0, 0, 0, 0},
		{-1, 0, 0, 0, 0, 0, 0},
		{0, 0, 0, 0, 0, 0, 0},
		{1, 1, 3, 3, 6, 8, 200},
		{31, 1, 94, 3, 6, 248, 6200},
		{32, 1, 98, 3, 6, 256, 6400},
		{33, 2, 101, 6, 12, 264, 6600},
		{1<<31 - 1, 67108864, 9007205688803325, 201326592, 402653184, 17179869176, 429496729400},
		{1 << 31, 67108864, 9007205697191936, 201326592, 402653184, 17179869184, 429496729600},
		{1<<31 + 1, 67108864, 9007205697191936, 201326592, 402653184, 17179869184, 429496729600},
		{math.MaxInt, 67108864, 9007205697191936, 201326592, 402653184, 17179869184, 429496729600},
	} {
		want := []int{x.words, x.memory, x.copied, x.hashed, x.logged, x.laid}
		for i, c := range sizeCalls() {
			if got := c.call(x.n); got != uint64(want[i]) {
				t.Errorf("%s(%d): %d, not %d", c.name, x.n, got, want[i])
			}
		}
	}
}

// 10.1: of any number below 0 all is as of 0, of any above 2^31 as of that.
func TestSizesBeyondTheBounds(t *testing.T) {
	d := draw(101)
	for range 20000 {
		n := d.count()
		for _, c := range sizeCalls() {
			if n < 0 && c.call(n) != c.call(0) {
				t.Errorf("%s(%d): %d, of 0 %d", c.name, n, c.call(n), c.call(0))
			}
			if n > 1<<31 && c.call(n) != c.call(1<<31) {
				t.Errorf("%s(%d): %d, of 2^31 %d", c.name, n, c.call(n), c.call(1<<31))
			}
		}
	}
}

// 10.2: what each call says of every kind of number, and of drawn ones, is what plain numbers say.
func TestSizes(t *testing.T) {
	l := ints()
	d := draw(102)
	for range 20000 {
		l = append(l, d.count())
	}
	for _, c := range sizeCalls() {
		for _, n := range l {
			if got, want := number(c.call(n)), c.model(n); got.Cmp(want) != 0 {
				t.Errorf("%s(%d): %d, not %d", c.name, n, got, want)
			}
		}
	}
}

// 10.2: Words is the least number of words that have room for n bytes.
func TestWordsAreTheLeast(t *testing.T) {
	for _, n := range ints() {
		if n < 1 || n > 1<<31 {
			continue
		}
		if w := gas.Words(n); 32*w < n || 32*(w-1) >= n {
			t.Errorf("Words(%d): %d", n, w)
		}
	}
}
