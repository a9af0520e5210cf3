package word

import (
	"math/bits"
	"strings"

	"vouch/api"
)

const (
	longest  = 78 // digits of 2^256 - 1, in decimal
	hexMost  = 64 // likewise in hexadecimal
	hexAhead = "0x"
	figures  = "0123456789abcdef"
)

// Hex is x in hexadecimal.
func Hex(x api.Word) string { return hexAhead + write(x, 16) }

// Text is x in decimal.
func Text(x api.Word) string { return write(x, 10) }

// Parse reads what Hex and Text write, zeros ahead and capital digits too.
func Parse(s string) (api.Word, api.Errno) {
	if len(s) > longest {
		return api.Word{}, api.ErrLong
	}
	if hex, ok := strings.CutPrefix(s, hexAhead); ok {
		return read(hex, 16, hexMost)
	}
	return read(s, 10, longest)
}

// write is x in digits of that base, without a 0 ahead.
func write(x api.Word, base uint64) string {
	var text [longest]byte
	at := len(text)
	for {
		var digit uint64
		x, digit = shorten(x, base)
		at--
		text[at] = figures[digit]
		if IsZero(x) {
			return string(text[at:])
		}
	}
}

// read is the number that 1 to most digits of that base are.
func read(s string, base uint64, most int) (api.Word, api.Errno) {
	if len(s) == 0 || len(s) > most {
		return api.Word{}, api.ErrNumber
	}
	var x api.Word
	for i := range len(s) {
		digit := digitOf(s[i])
		if digit >= base {
			return api.Word{}, api.ErrNumber
		}
		var over uint64
		x, over = lengthen(x, base, digit)
		if over != 0 {
			return api.Word{}, api.ErrNumber
		}
	}
	return x, api.OK
}

// digitOf is what c counts as a digit; of what is none, more than any base.
func digitOf(c byte) uint64 {
	switch {
	case '0' <= c && c <= '9':
		return uint64(c - '0')
	case 'a' <= c && c <= 'f':
		return uint64(c-'a') + 10
	case 'A' <= c && c <= 'F':
		return uint64(c-'A') + 10
	}
	return 255
}

// lengthen is x base + digit, and what of it lies above 256 bits.
func lengthen(x api.Word, base, digit uint64) (api.Word, uint64) {
	for i := range x {
		digit, x[i] = mulAdd(x[i], base, digit)
	}
	return x, digit
}

// shorten takes lengthen back: the quotient by base, and the lowest digit.
func shorten(x api.Word, base uint64) (api.Word, uint64) {
	var digit uint64
	for i := len(x) - 1; i >= 0; i-- {
		x[i], digit = bits.Div64(digit, x[i], base)
	}
	return x, digit
}
