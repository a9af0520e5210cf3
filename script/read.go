package script

import (
	"strings"

	"vouch/api"
	"vouch/word"
)

// What a word of a line is to be, and where what it says goes: nowhere, if it is not that.
type (
	number  struct{ into *uint64 }
	value   struct{ into *api.Word }
	address struct{ into *api.Address }
	row     struct{ into *[]byte }
	hash    struct{ into *api.Hash }
	engine  struct{ into *int }
	kind    struct{ into *int }
)

// read reads words as what is wanted of each: are they so many, and is each of them that?
func read(words []string, wanted ...any) bool {
	if len(words) != len(wanted) {
		return false
	}
	for i, text := range words {
		if !readOne(text, wanted[i]) {
			return false
		}
	}
	return true
}

// readOne reads one word as what is wanted.
func readOne(text string, wanted any) bool {
	switch to := wanted.(type) {
	case number:
		return lay(to.into, text, numberOf)
	case value:
		return lay(to.into, text, valueOf)
	case address:
		return lay(to.into, text, addressOf)
	case row:
		return lay(to.into, text, rowOf)
	case hash:
		return lay(to.into, text, hashOf)
	case engine:
		return lay(to.into, text, engineOf)
	case kind:
		return lay(to.into, text, kindOf)
	}
	return false
}

// lay lays down what a word says, if it says that.
func lay[T any](into *T, text string, of func(string) (T, bool)) bool {
	x, ok := of(text)
	if ok {
		*into = x
	}
	return ok
}

func valueOf(text string) (api.Word, bool) {
	x, e := word.Parse(text)
	return x, e == api.OK
}

func numberOf(text string) (uint64, bool) {
	x, ok := valueOf(text)
	if !ok {
		return 0, false
	}
	return word.Uint(x)
}

func addressOf(text string) (api.Address, bool) {
	x, ok := valueOf(text)
	if !ok {
		return api.Address{}, false
	}
	return word.ToAddress(x)
}

// rowOf reads bytes: of other forms than word's numbers, small digits alone, and none too.
func rowOf(text string) ([]byte, bool) {
	digits, ok := strings.CutPrefix(text, "0x")
	if !ok || len(digits)%2 != 0 {
		return nil, false
	}
	b := make([]byte, len(digits)/2)
	for i := range b {
		high, low := digitOf(digits[2*i]), digitOf(digits[2*i+1])
		if high < 0 || low < 0 {
			return nil, false
		}
		b[i] = byte(high<<4 | low)
	}
	return b, true
}

// digitOf is what a digit says; below 0: it is none.
func digitOf(c byte) int {
	switch {
	case '0' <= c && c <= '9':
		return int(c - '0')
	case 'a' <= c && c <= 'f':
		return int(c-'a') + 10
	}
	return -1
}

func hashOf(text string) (api.Hash, bool) {
	b, ok := rowOf(text)
	if !ok || len(b) != len(api.Hash{}) {
		return api.Hash{}, false
	}
	return api.Hash(b), true
}

func engineOf(text string) (int, bool) {
	switch text {
	case "checked":
		return api.Checked, true
	case "fast":
		return api.Fast, true
	}
	return 0, false
}

func kindOf(text string) (int, bool) {
	switch text {
	case "runtime":
		return api.Runtime, true
	case "init":
		return api.Init, true
	}
	return 0, false
}
