package word_test

import (
	"math/big"
	"testing"

	"vouch/api"
)

// The model: the same operations on plain numbers of any size, which know nothing of parts of 64 bits.

var (
	one  = big.NewInt(1)
	end  = new(big.Int).Lsh(one, 256) // 2^256
	zero = api.Word{}
	most = api.Word{1<<64 - 1, 1<<64 - 1, 1<<64 - 1, 1<<64 - 1} // 2^256 - 1, and -1
	half = api.Word{0, 0, 0, 1 << 63}                           // 2^255, and -2^255
)

func num(n uint64) api.Word { return api.Word{n} }

// neg is -n as a word, of n from 1 on.
func neg(n uint64) api.Word { return api.Word{-n, 1<<64 - 1, 1<<64 - 1, 1<<64 - 1} }

// power is 2^k, of k below 256.
func power(k int) api.Word {
	var x api.Word
	x[k/64] = 1 << (k % 64)
	return x
}

func number(x api.Word) *big.Int {
	n := new(big.Int)
	for i := 3; i >= 0; i-- {
		n.Lsh(n, 64).Or(n, new(big.Int).SetUint64(x[i]))
	}
	return n
}

func signed(x api.Word) *big.Int {
	n := number(x)
	if n.Bit(255) == 1 {
		n.Sub(n, end)
	}
	return n
}

// toWord is n modulo 2^256.
func toWord(n *big.Int) api.Word {
	m := new(big.Int).Mod(n, end)
	part := new(big.Int).SetUint64(1<<64 - 1)
	var x api.Word
	for i := range x {
		x[i] = new(big.Int).And(m, part).Uint64()
		m.Rsh(m, 64)
	}
	return x
}

// draw is a row of numbers that looks like chance and is the same in each run.
type draw uint64

func (d *draw) next() uint64 {
	*d += 0x9e3779b97f4a7c15
	z := uint64(*d)
	z = (z ^ z>>30) * 0xbf58476d1ce4e5b9
	z = (z ^ z>>27) * 0x94d049bb133111eb
	return z ^ z>>31
}

// word is of any length, so that short ones come as often as long ones.
func (d *draw) word() api.Word {
	var x api.Word
	n := int(d.next() % 257)
	for i := range n {
		if d.next()&1 == 1 {
			x[i/64] |= 1 << (i % 64)
		}
	}
	return x
}

// edges: what the chapter names, and parts that make carries and wrong guesses of a long division.
func edges() []api.Word {
	l := []api.Word{
		num(2), num(3), num(5), num(7), num(10), num(30), num(31), num(32), num(63), num(64), num(65), num(127), num(128),
		num(191), num(192), num(248), num(254), num(255), num(256), num(257), num(300), num(0x80), num(0x7f), num(0x17f), num(0x1234),
		neg(1), neg(2), neg(3), neg(5), neg(7), neg(128), neg(255), neg(256),
		{0, 1, 0, 1 << 63}, {1<<64 - 1, 1<<64 - 1, 1<<64 - 1, 1<<63 - 1}, {1, 0, 0, 1 << 63},
		{1<<64 - 1, 1<<64 - 1, 1<<32 - 1}, {0, 0, 1 << 32},
	}
	for _, a := range []uint64{0, 1, 1 << 63, 1<<64 - 1} {
		for _, b := range []uint64{0, 1<<63 - 1, 1<<64 - 1} {
			for _, c := range []uint64{0, 1 << 63, 1<<64 - 2} {
				for _, d := range []uint64{0, 1, 1 << 63, 1<<64 - 1} {
					l = append(l, api.Word{a, b, c, d})
				}
			}
		}
	}
	return l
}

// some is edges and words of a draw.
func some(n int) []api.Word {
	l := edges()
	d := draw(1)
	for range n {
		l = append(l, d.word())
	}
	return l
}

// ofOne, ofTwo, ofThree hold a call against its model.

func ofOne(t *testing.T, name string, call func(a api.Word) api.Word, model func(a api.Word) *big.Int) {
	t.Helper()
	for _, a := range some(2000) {
		if got, want := call(a), toWord(model(a)); got != want {
			t.Fatalf("%s(%#x): %#x, want %#x", name, number(a), number(got), number(want))
		}
	}
}

func ofTwo(t *testing.T, name string, call func(a, b api.Word) api.Word, model func(a, b api.Word) *big.Int) {
	t.Helper()
	hold := func(a, b api.Word) {
		if got, want := call(a, b), toWord(model(a, b)); got != want {
			t.Fatalf("%s(%#x, %#x): %#x, want %#x", name, number(a), number(b), number(got), number(want))
		}
	}
	l := edges()
	for _, a := range l {
		for _, b := range l {
			hold(a, b)
		}
	}
	d := draw(2)
	for range 20000 {
		hold(d.word(), d.word())
	}
}

func ofThree(t *testing.T, name string, call func(a, b, c api.Word) api.Word, model func(a, b, c api.Word) *big.Int) {
	t.Helper()
	hold := func(a, b, c api.Word) {
		if got, want := call(a, b, c), toWord(model(a, b, c)); got != want {
			t.Fatalf("%s(%#x, %#x, %#x): %#x, want %#x", name, number(a), number(b), number(c), number(got), number(want))
		}
	}
	l := edges()
	d := draw(3)
	for _, a := range l {
		for _, b := range l {
			hold(a, b, zero)
			for range 4 {
				hold(a, b, l[d.next()%uint64(len(l))])
			}
		}
	}
	for range 20000 {
		hold(d.word(), d.word(), d.word())
	}
}

// truthOf holds a question against its model.
func truthOf(t *testing.T, name string, call func(a, b api.Word) bool, model func(a, b api.Word) bool) {
	t.Helper()
	l := some(40)
	for _, a := range l {
		for _, b := range append(l, a) {
			if got, want := call(a, b), model(a, b); got != want {
				t.Fatalf("%s(%#x, %#x): %v, want %v", name, number(a), number(b), got, want)
			}
		}
	}
}
