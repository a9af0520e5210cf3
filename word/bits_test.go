package word_test

import (
	"math/big"
	"testing"

	"vouch/api"
	"vouch/word"
)

// 1.8
func TestBitByBit(t *testing.T) {
	ofTwo(t, "And", word.And, func(a, b api.Word) *big.Int { return new(big.Int).And(number(a), number(b)) })
	ofTwo(t, "Or", word.Or, func(a, b api.Word) *big.Int { return new(big.Int).Or(number(a), number(b)) })
	ofTwo(t, "Xor", word.Xor, func(a, b api.Word) *big.Int { return new(big.Int).Xor(number(a), number(b)) })
	ofOne(t, "Not", word.Not, func(a api.Word) *big.Int { return new(big.Int).Not(number(a)) })
}

// 1.9
func TestByte(t *testing.T) {
	model := func(i, x api.Word) *big.Int {
		if number(i).Cmp(big.NewInt(32)) >= 0 {
			return new(big.Int)
		}
		b := number(x).FillBytes(make([]byte, 32))
		return big.NewInt(int64(b[i[0]]))
	}
	ofTwo(t, "Byte", word.Byte, model)
	x := api.Word{0x18191a1b1c1d1e1f, 0x1011121314151617, 0x08090a0b0c0d0e0f, 0x0001020304050607}
	for i := range uint64(32) {
		if y := word.Byte(num(i), x); y != num(i) {
			t.Errorf("Byte(%d): %x", i, y)
		}
	}
	for _, i := range []api.Word{num(32), num(33), num(1<<64 - 1), {0, 1}, {31, 1}, {31, 0, 0, 1}, most} {
		if y := word.Byte(i, most); y != zero {
			t.Errorf("Byte(%x): %x", i, y)
		}
	}
}

func shlModel(n, x api.Word) *big.Int {
	if number(n).Cmp(big.NewInt(256)) >= 0 {
		return new(big.Int)
	}
	return new(big.Int).Lsh(number(x), uint(n[0]))
}

func shrModel(n, x api.Word) *big.Int {
	if number(n).Cmp(big.NewInt(256)) >= 0 {
		return new(big.Int)
	}
	return new(big.Int).Rsh(number(x), uint(n[0]))
}

func sarModel(n, x api.Word) *big.Int {
	by := uint(1000) // so far nothing but the sign is left
	if number(n).Cmp(big.NewInt(1000)) < 0 {
		by = uint(n[0])
	}
	return new(big.Int).Div(signed(x), new(big.Int).Lsh(one, by))
}

// 1.10
func TestShifts(t *testing.T) {
	ofTwo(t, "Shl", word.Shl, shlModel)
	ofTwo(t, "Shr", word.Shr, shrModel)
	ofTwo(t, "Sar", word.Sar, sarModel)
	l := some(20)
	for k := range uint64(300) {
		for _, x := range l {
			n := num(k)
			if y := word.Shl(n, x); y != toWord(shlModel(n, x)) {
				t.Fatalf("Shl(%d, %x): %x", k, x, y)
			}
			if y := word.Shr(n, x); y != toWord(shrModel(n, x)) {
				t.Fatalf("Shr(%d, %x): %x", k, x, y)
			}
			if y := word.Sar(n, x); y != toWord(sarModel(n, x)) {
				t.Fatalf("Sar(%d, %x): %x", k, x, y)
			}
		}
	}
}

// 1.10: n is a whole word, not its lowest part.
func TestShiftsByAnyWord(t *testing.T) {
	for _, n := range []api.Word{num(256), num(1 << 32), num(1 << 63), num(1<<64 - 1), {0, 1}, {1, 1}, {0, 0, 1}, {1, 0, 0, 1}, half, most} {
		if y := word.Shl(n, most); y != zero {
			t.Errorf("Shl(%x, -1): %x", n, y)
		}
		if y := word.Shr(n, most); y != zero {
			t.Errorf("Shr(%x, -1): %x", n, y)
		}
		if y := word.Sar(n, half); y != most {
			t.Errorf("Sar(%x, -2^255): %x", n, y)
		}
		if y := word.Sar(n, word.Not(half)); y != zero {
			t.Errorf("Sar(%x, 2^255 - 1): %x", n, y)
		}
		if y := word.SignExtend(n, num(0x80)); y != num(0x80) {
			t.Errorf("SignExtend(%x, 0x80): %x", n, y)
		}
	}
	if word.Sar(num(255), half) != most || word.Sar(num(254), half) != neg(2) || word.Sar(num(255), word.Not(half)) != zero {
		t.Error("Sar by 255")
	}
}

// 1.11
func TestClzAndSize(t *testing.T) {
	ofOne(t, "Clz", word.Clz, func(a api.Word) *big.Int { return big.NewInt(int64(256 - number(a).BitLen())) })
	for _, x := range some(2000) {
		if got, want := word.Size(x), len(number(x).Bytes()); got != want {
			t.Errorf("Size(%x): %d, want %d", x, got, want)
		}
	}
	for k := range 256 {
		if y := word.Clz(power(k)); y != num(uint64(255-k)) {
			t.Errorf("Clz(2^%d): %x", k, y)
		}
		if y := word.Size(power(k)); y != k/8+1 {
			t.Errorf("Size(2^%d): %d", k, y)
		}
		if y := word.Size(word.Sub(power(k), num(1))); y != (k+7)/8 {
			t.Errorf("Size(2^%d - 1): %d", k, y)
		}
	}
	if word.Clz(zero) != num(256) || word.Size(zero) != 0 || word.Size(most) != 32 {
		t.Error("Clz, Size at the ends")
	}
}
