package word

import (
	"math/bits"

	"vouch/api"
)

// And is 1 in each bit where both are.
func And(a, b api.Word) api.Word {
	for i := range a {
		a[i] &= b[i]
	}
	return a
}

// Or is 1 in each bit where one of the two is.
func Or(a, b api.Word) api.Word {
	for i := range a {
		a[i] |= b[i]
	}
	return a
}

// Xor is 1 in each bit where just one of the two is.
func Xor(a, b api.Word) api.Word {
	for i := range a {
		a[i] ^= b[i]
	}
	return a
}

// Not is 1 in each bit where a is 0.
func Not(a api.Word) api.Word {
	for i := range a {
		a[i] = ^a[i]
	}
	return a
}

// Byte is the i-th byte of x, number 0 the highest; 0 from 32 on.
func Byte(i, x api.Word) api.Word {
	at, ok := below(i, 32)
	if !ok {
		return api.Word{}
	}
	b := Bytes(x)
	return FromUint(uint64(b[at]))
}

// SignExtend lays the highest bit of x's byte k, number 0 the lowest, over all bits above it.
func SignExtend(k, x api.Word) api.Word {
	at, ok := below(k, 31)
	if !ok {
		return x
	}
	above := 248 - 8*at
	x = shiftUp(x, above)
	return shiftDown(x, above, signBits(x))
}

// Shl is x 2^n.
func Shl(n, x api.Word) api.Word {
	by, ok := below(n, 256)
	if !ok {
		return api.Word{}
	}
	return shiftUp(x, by)
}

// Shr is x by 2^n, rounded down.
func Shr(n, x api.Word) api.Word {
	by, ok := below(n, 256)
	if !ok {
		return api.Word{}
	}
	return shiftDown(x, by, 0)
}

// Sar is x, signed, by 2^n, rounded down.
func Sar(n, x api.Word) api.Word {
	by, ok := below(n, 256)
	if !ok {
		by = 255 // from there on nothing but the sign is left
	}
	return shiftDown(x, by, signBits(x))
}

// Clz is how many bits are 0 ahead of the first 1.
func Clz(a api.Word) api.Word { return FromUint(uint64(zerosAhead(a))) }

// Size: how many bytes it needs.
func Size(x api.Word) int { return (256 - zerosAhead(x) + 7) / 8 }

func zerosAhead(a api.Word) int {
	n := parts(a[:])
	if n == 0 {
		return 256
	}
	return 64*(len(a)-n) + bits.LeadingZeros64(a[n-1])
}

// below is n as a small number; false: n is limit or more.
func below(n api.Word, limit uint) (uint, bool) {
	if !Lt(n, FromUint(uint64(limit))) {
		return 0, false
	}
	return uint(n[0]), true
}

// signBits is the part that goes on above a signed number for ever.
func signBits(x api.Word) uint64 {
	if negative(x) {
		return 1<<64 - 1
	}
	return 0
}

// shiftUp is x 2^by, by below 256. A part shifted by 64 is 0, so a whole number of parts is no case of its own.
func shiftUp(x api.Word, by uint) api.Word {
	var y api.Word
	skip, by := int(by/64), by%64
	for i := skip; i < len(y); i++ {
		y[i] = x[i-skip] << by
		if i > skip {
			y[i] |= x[i-skip-1] >> (64 - by)
		}
	}
	return y
}

// shiftDown is x by 2^by, by below 256; fill is the part that stands above x's highest one.
func shiftDown(x api.Word, by uint, fill uint64) api.Word {
	above := [8]uint64{x[0], x[1], x[2], x[3], fill, fill, fill, fill}
	var y api.Word
	skip, by := int(by/64), by%64
	for i := range y {
		y[i] = above[i+skip]>>by | above[i+skip+1]<<(64-by)
	}
	return y
}
