package word_test

import (
	"math/big"
	"testing"

	"vouch/api"
	"vouch/word"
)

// 1.1
func TestAddSubMul(t *testing.T) {
	ofTwo(t, "Add", word.Add, func(a, b api.Word) *big.Int { return new(big.Int).Add(number(a), number(b)) })
	ofTwo(t, "Sub", word.Sub, func(a, b api.Word) *big.Int { return new(big.Int).Sub(number(a), number(b)) })
	ofTwo(t, "Mul", word.Mul, func(a, b api.Word) *big.Int { return new(big.Int).Mul(number(a), number(b)) })
}

// 1.2
func TestDivMod(t *testing.T) {
	ofTwo(t, "Div", word.Div, func(a, b api.Word) *big.Int { return unlessZero(new(big.Int).Div, number(a), number(b)) })
	ofTwo(t, "Mod", word.Mod, func(a, b api.Word) *big.Int { return unlessZero(new(big.Int).Mod, number(a), number(b)) })
}

// 1.3
func TestSignedDivMod(t *testing.T) {
	ofTwo(t, "SDiv", word.SDiv, func(a, b api.Word) *big.Int { return unlessZero(new(big.Int).Quo, signed(a), signed(b)) })
	ofTwo(t, "SMod", word.SMod, func(a, b api.Word) *big.Int { return unlessZero(new(big.Int).Rem, signed(a), signed(b)) })
	if x := word.SDiv(half, most); x != half {
		t.Errorf("SDiv(-2^255, -1): %x", x)
	}
}

// 1.4
func TestAddModMulMod(t *testing.T) {
	ofThree(t, "AddMod", word.AddMod, func(a, b, m api.Word) *big.Int {
		return unlessZero(new(big.Int).Mod, new(big.Int).Add(number(a), number(b)), number(m))
	})
	ofThree(t, "MulMod", word.MulMod, func(a, b, m api.Word) *big.Int {
		return unlessZero(new(big.Int).Mod, new(big.Int).Mul(number(a), number(b)), number(m))
	})
}

// unlessZero is 0 of a divisor 0.
func unlessZero(call func(a, b *big.Int) *big.Int, a, b *big.Int) *big.Int {
	if b.Sign() == 0 {
		return new(big.Int)
	}
	return call(a, b)
}

// Digits of a long division whose first guess is too great: quotients q and remainders that stand at an edge, made from behind.
func TestLongDivisionFromBehind(t *testing.T) {
	d := draw(4)
	l := edges()
	for _, b := range l {
		if b == zero {
			continue
		}
		for range 200 {
			q := new(big.Int).Div(number(most), number(b))
			if d.next()&1 == 1 {
				q.Mod(number(d.word()), new(big.Int).Add(q, one))
			}
			at := new(big.Int).Mul(q, number(b))
			for _, left := range []*big.Int{new(big.Int), new(big.Int).Sub(number(b), one)} {
				a := new(big.Int).Add(at, left)
				if a.Cmp(end) >= 0 {
					continue
				}
				if x := word.Div(toWord(a), b); x != toWord(q) {
					t.Fatalf("Div(%#x, %#x): %#x, want %#x", a, number(b), number(x), q)
				}
				if x := word.Mod(toWord(a), b); x != toWord(left) {
					t.Fatalf("Mod(%#x, %#x): %#x, want %#x", a, number(b), number(x), left)
				}
			}
		}
	}
}

// 1.5
func TestExp(t *testing.T) {
	hold := func(a, b api.Word) {
		if got, want := word.Exp(a, b), toWord(new(big.Int).Exp(number(a), number(b), end)); got != want {
			t.Fatalf("Exp(%#x, %#x): %#x, want %#x", number(a), number(b), number(got), number(want))
		}
	}
	l := edges()
	d := draw(5)
	for _, a := range l {
		hold(a, zero)
		hold(a, num(1))
		for range 10 {
			hold(a, l[d.next()%uint64(len(l))])
		}
	}
	for range 1000 {
		hold(d.word(), d.word())
	}
	for _, a := range []api.Word{zero, num(1), most} {
		if x := word.Exp(a, zero); x != num(1) {
			t.Errorf("Exp(%x, 0): %x", a, x)
		}
	}
	for k := range uint64(260) {
		want := zero
		if k < 256 {
			want = power(int(k))
		}
		if x := word.Exp(num(2), num(k)); x != want {
			t.Errorf("Exp(2, %d): %x", k, x)
		}
	}
}

// 1.6
func TestSignExtend(t *testing.T) {
	model := func(k, x api.Word) *big.Int {
		if number(k).Cmp(big.NewInt(31)) >= 0 {
			return number(x)
		}
		bit := 8*int(k[0]) + 7
		return lowSigned(number(x), bit)
	}
	ofTwo(t, "SignExtend", word.SignExtend, model)
	for k := range uint64(40) {
		for _, x := range some(50) {
			if got, want := word.SignExtend(num(k), x), toWord(model(num(k), x)); got != want {
				t.Fatalf("SignExtend(%d, %#x): %#x, want %#x", k, number(x), number(got), number(want))
			}
		}
	}
}

// lowSigned is what the bits of x up to that one are, it being the sign.
func lowSigned(x *big.Int, bit int) *big.Int {
	width := new(big.Int).Lsh(one, uint(bit+1))
	y := new(big.Int).Mod(x, width)
	if x.Bit(bit) == 1 {
		y.Sub(y, width)
	}
	return y
}

// 1.7
func TestComparing(t *testing.T) {
	truthOf(t, "Lt", word.Lt, func(a, b api.Word) bool { return number(a).Cmp(number(b)) < 0 })
	truthOf(t, "Gt", word.Gt, func(a, b api.Word) bool { return number(a).Cmp(number(b)) > 0 })
	truthOf(t, "SLt", word.SLt, func(a, b api.Word) bool { return signed(a).Cmp(signed(b)) < 0 })
	truthOf(t, "SGt", word.SGt, func(a, b api.Word) bool { return signed(a).Cmp(signed(b)) > 0 })
	truthOf(t, "Eq", word.Eq, func(a, b api.Word) bool { return number(a).Cmp(number(b)) == 0 })
	l := some(40)
	for _, a := range l {
		if got, want := word.IsZero(a), number(a).Sign() == 0; got != want {
			t.Errorf("IsZero(%x): %v", a, got)
		}
		for _, b := range append(l, a) {
			if got, want := word.Cmp(a, b), number(a).Cmp(number(b)); got != want {
				t.Fatalf("Cmp(%x, %x): %d, want %d", a, b, got, want)
			}
		}
	}
}

// Each bit counts in a comparison, whatever stands beside it.
func TestComparingBitByBit(t *testing.T) {
	for k := range 256 {
		x := power(k)
		if word.IsZero(x) || word.Eq(x, zero) || !word.Gt(x, zero) || !word.Lt(zero, x) || word.Cmp(zero, x) != -1 {
			t.Errorf("2^%d and 0", k)
		}
		if word.SLt(x, zero) != (k == 255) || word.SGt(x, zero) != (k != 255) {
			t.Errorf("2^%d and 0, signed", k)
		}
	}
}
