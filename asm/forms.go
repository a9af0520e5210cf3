package asm

import (
	"cmp"
	"strings"

	"vouch/api"
	"vouch/word"
)

const (
	hexAhead   = "0x"
	placeAhead = "@"
	labelEnd   = ":"
	neverWord  = "never" // in the place of Out
	mostDigits = 7       // of a target's place
)

// form: is a word of this form?
type form func(text string) bool

func isBlank(c rune) bool { return c == ' ' || c == '\t' || c == '\r' }

func isDigit(c rune) bool { return '0' <= c && c <= '9' }

func isSmall(c rune) bool { return 'a' <= c && c <= 'z' }

func isHexDigit(c rune) bool {
	return isDigit(c) || 'a' <= c && c <= 'f' || 'A' <= c && c <= 'F'
}

func isBehindFirst(c rune) bool { return isSmall(c) || isDigit(c) || c == '_' }

// all: is each of a text's letters of this kind?
func all(text string, is func(c rune) bool) bool {
	for _, c := range text {
		if !is(c) {
			return false
		}
	}
	return true
}

// isCount: decimal digits of which the first isn't 0?
func isCount(text string) bool {
	return text != "" && text[0] != '0' && all(text, isDigit)
}

func isNumber(text string) bool {
	if digits, hex := strings.CutPrefix(text, hexAhead); hex {
		return digits != "" && all(digits, isHexDigit)
	}
	return text == "0" || isCount(text)
}

func isOut(text string) bool { return text == neverWord || isNumber(text) }

func isBytes(text string) bool {
	digits, hex := strings.CutPrefix(text, hexAhead)
	return hex && len(digits)%2 == 0 && all(digits, isHexDigit)
}

func isName(text string) bool {
	return text != "" && isSmall(rune(text[0])) && all(text[1:], isBehindFirst)
}

func isLabel(text string) bool {
	name, ends := strings.CutSuffix(text, labelEnd)
	return ends && isName(name)
}

func isTarget(text string) bool {
	place, told := strings.CutPrefix(text, placeAhead)
	if !told {
		return isName(text)
	}
	digits := strings.TrimPrefix(place, "-")
	return place == "0" || isCount(digits) && len(digits) <= mostDigits
}

// number takes a number that lies within its bounds.
func (l *line) number(least, most uint64) int {
	return l.take(isNumber).bounded(least, most)
}

// bounded is the number that a word is.
func (t term) bounded(least, most uint64) int {
	n, small := word.Uint(t.value())
	if !small || n < least || n > most {
		giveUp(api.ErrArg, t.at)
	}
	return int(n)
}

// wide takes a number that so many bytes can be, and is these.
func (l *line) wide(size int) []byte {
	t := l.take(isNumber)
	x := t.value()
	if word.Size(x) > size {
		giveUp(api.ErrArg, t.at)
	}
	b := word.Bytes(x)
	return b[len(b)-size:]
}

// value is the number that a word is: no bound lets one of more than 256 bits through.
func (t term) value() api.Word {
	text := t.text
	if digits, hex := strings.CutPrefix(text, hexAhead); hex {
		// Zeros ahead may make it longer than package word reads.
		text = hexAhead + cmp.Or(strings.TrimLeft(digits, "0"), "0")
	}
	x, wrong := word.Parse(text)
	if wrong != api.OK {
		giveUp(api.ErrArg, t.at)
	}
	return x
}

// bytes takes bytes.
func (l *line) bytes() []byte {
	digits := strings.TrimPrefix(l.take(isBytes).text, hexAhead)
	b := make([]byte, len(digits)/2)
	for i := range b {
		b[i] = digitOf(digits[2*i])<<4 | digitOf(digits[2*i+1])
	}
	return b
}

// digitOf is what a hexadecimal digit counts.
func digitOf(c byte) byte {
	switch {
	case c >= 'a':
		return c - 'a' + 10
	case c >= 'A':
		return c - 'A' + 10
	}
	return c - '0'
}
