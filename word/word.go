// Package word: numbers of 256 bits: see DOC.md, chapter 1.
package word

import (
	"math/bits"

	"vouch/api"
)

// Add is a + b.
func Add(a, b api.Word) api.Word {
	sum, _ := addCarry(a, b)
	return sum
}

// Sub is a - b.
func Sub(a, b api.Word) api.Word {
	var diff api.Word
	var borrow uint64
	for i := range diff {
		diff[i], borrow = bits.Sub64(a[i], b[i], borrow)
	}
	return diff
}

// Mul is a b.
func Mul(a, b api.Word) api.Word {
	return low(product(a, b))
}

// Exp is a to the b-th.
func Exp(a, b api.Word) api.Word {
	power := FromUint(1)
	for bit := 255 - zerosAhead(b); bit >= 0; bit-- {
		power = Mul(power, power)
		if b[bit/64]>>uint(bit%64)&1 == 1 {
			power = Mul(power, a)
		}
	}
	return power
}

// Sum is the plain sum; false: it has more than 256 bits.
func Sum(l ...api.Word) (api.Word, bool) {
	var sum api.Word
	var carry uint64
	for _, x := range l {
		sum, carry = addCarry(sum, x)
		if carry != 0 {
			return api.Word{}, false
		}
	}
	return sum, true
}

// Lt: is a below b?
func Lt(a, b api.Word) bool { return Cmp(a, b) < 0 }

// Gt: is a above b?
func Gt(a, b api.Word) bool { return Cmp(a, b) > 0 }

// SLt: is a, signed, below b?
func SLt(a, b api.Word) bool { return Lt(flipSign(a), flipSign(b)) }

// SGt: is a, signed, above b?
func SGt(a, b api.Word) bool { return Gt(flipSign(a), flipSign(b)) }

// Eq: are they the same?
func Eq(a, b api.Word) bool { return a == b }

// IsZero: is a 0?
func IsZero(a api.Word) bool { return a == api.Word{} }

// Cmp: -1, 0, 1, if a is below b, the same, above it.
func Cmp(a, b api.Word) int {
	for i := len(a) - 1; i >= 0; i-- {
		if a[i] < b[i] {
			return -1
		}
		if a[i] > b[i] {
			return 1
		}
	}
	return 0
}

// addCarry is a + b, and the bit above the highest.
func addCarry(a, b api.Word) (api.Word, uint64) {
	var sum api.Word
	var carry uint64
	for i := range sum {
		sum[i], carry = bits.Add64(a[i], b[i], carry)
	}
	return sum, carry
}

// negative: a signed number is below 0 just if its highest bit is 1.
func negative(a api.Word) bool { return a[3]>>63 == 1 }

// negate is -a.
func negate(a api.Word) api.Word { return Sub(api.Word{}, a) }

// magnitude is a, signed, without its sign: of -2^255 it is 2^255, which still is a word.
func magnitude(a api.Word) api.Word {
	if negative(a) {
		return negate(a)
	}
	return a
}

// flipSign adds 2^255 to a signed number, so that signed order becomes plain order.
func flipSign(a api.Word) api.Word {
	a[3] ^= 1 << 63
	return a
}
