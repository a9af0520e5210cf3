package word

import (
	"math/bits"

	"vouch/api"
)

// wide is a number of 512 bits, its lowest 64 first: every plain product of two words is one.
type wide [8]uint64

// Div is the quotient, rounded down; by 0 it is 0.
func Div(a, b api.Word) api.Word {
	quotient, _ := divide(widen(a), b)
	return low(quotient)
}

// Mod is what is left of a behind Div.
func Mod(a, b api.Word) api.Word {
	_, left := divide(widen(a), b)
	return left
}

// SDiv is the signed quotient, towards 0; by 0 it is 0.
func SDiv(a, b api.Word) api.Word {
	quotient := Div(magnitude(a), magnitude(b))
	if negative(a) != negative(b) {
		return negate(quotient)
	}
	return quotient
}

// SMod is what is left of a, signed, behind SDiv.
func SMod(a, b api.Word) api.Word {
	left := Mod(magnitude(a), magnitude(b))
	if negative(a) {
		return negate(left)
	}
	return left
}

// AddMod is what is left of the plain sum.
func AddMod(a, b, m api.Word) api.Word {
	sum, carry := addCarry(a, b)
	whole := widen(sum)
	whole[4] = carry
	_, left := divide(whole, m)
	return left
}

// MulMod is what is left of the plain product.
func MulMod(a, b, m api.Word) api.Word {
	_, left := divide(product(a, b), m)
	return left
}

// divide is the quotient of u by v and what is left of u; both 0, if v is 0.
func divide(u wide, v api.Word) (wide, api.Word) {
	n := parts(v[:])
	if n == 0 {
		return wide{}, api.Word{}
	}
	// With the divisor's highest bit at the top of its part, a guess is at most two too great.
	shift := uint(bits.LeadingZeros64(v[n-1]))
	divisor := shiftUp(v, shift)
	rest := stretch(u, shift)
	var quotient wide
digits:
	for at := parts(u[:]) - n; at >= 0; at-- {
		for digit := guess(rest[at+n], rest[at+n-1], divisor[n-1]); digit > 0; digit-- {
			if less, enough := takeOff(rest, divisor, n, at, digit); enough {
				quotient[at], rest = digit, less
				continue digits
			}
		}
	}
	return quotient, squeeze(rest, shift)
}

// guess is the quotient of the two highest parts of what is left by the divisor's highest one, or the greatest digit, if it is above that: never less than the true digit.
func guess(high, next, top uint64) uint64 {
	if high >= top {
		return 1<<64 - 1
	}
	digit, _ := bits.Div64(high, next, top)
	return digit
}

// takeOff takes digit times the divisor's n parts off rest, from the part at on; false: so much is not there.
func takeOff(rest [9]uint64, divisor api.Word, n, at int, digit uint64) ([9]uint64, bool) {
	var carry, borrow uint64
	for i := range n {
		var part uint64
		carry, part = mulAdd(divisor[i], digit, carry)
		rest[at+i], borrow = bits.Sub64(rest[at+i], part, borrow)
	}
	rest[at+n], borrow = bits.Sub64(rest[at+n], carry, borrow)
	return rest, borrow == 0
}

// stretch is u 2^shift, shift below 64: one part more holds what leaves the highest one.
func stretch(u wide, shift uint) [9]uint64 {
	var rest [9]uint64
	for i, part := range u {
		rest[i] |= part << shift
		rest[i+1] = part >> (64 - shift)
	}
	return rest
}

// squeeze takes stretch back, of what is below the divisor and so fits a word.
func squeeze(rest [9]uint64, shift uint) api.Word {
	var left api.Word
	for i := range left {
		left[i] = rest[i]>>shift | rest[i+1]<<(64-shift)
	}
	return left
}

// product is the plain product.
func product(a, b api.Word) wide {
	var whole wide
	for i := range a {
		var carry uint64
		for j := range b {
			high, part := mulAdd(a[i], b[j], carry)
			sum, over := bits.Add64(whole[i+j], part, 0)
			whole[i+j], carry = sum, high+over
		}
		whole[i+len(b)] = carry
	}
	return whole
}

// mulAdd is a b + c: it always fits two parts.
func mulAdd(a, b, c uint64) (high, part uint64) {
	high, part = bits.Mul64(a, b)
	part, over := bits.Add64(part, c, 0)
	return high + over, part
}

// parts is how many parts, from the lowest on, are needed to hold all bits that are 1.
func parts(p []uint64) int {
	n := len(p)
	for n > 0 && p[n-1] == 0 {
		n--
	}
	return n
}

func widen(a api.Word) wide { return wide{a[0], a[1], a[2], a[3]} }

func low(w wide) api.Word { return api.Word{w[0], w[1], w[2], w[3]} }
