package script_test

import (
	"bytes"
	"encoding/hex"
	"fmt"
	"slices"
	"strings"
	"testing"

	"vouch/api"
	"vouch/container"
	"vouch/flow"
	"vouch/script"
	"vouch/word"
)

const never = api.NoReturn

// raw is bytes written in hexadecimal, with spaces or without.
func raw(text string) []byte {
	b, wrong := hex.DecodeString(strings.ReplaceAll(text, " ", ""))
	if wrong != nil {
		panic(wrong)
	}
	return b
}

// addr is the address 00..n.
func addr(n int) api.Address { return api.Address{18: byte(n >> 8), 19: byte(n)} }

// Some accounts' addresses; and as they are told.
var (
	a, b, c, d, e = addr(10), addr(11), addr(12), addr(13), addr(14)

	atA, atB, atC, atD = whole(a), whole(b), whole(c), whole(d)
)

// n is a small number as a word.
func n(x uint64) api.Word { return api.Word{x} }

// wordOf is an address as a word.
func wordOf(x api.Address) api.Word { return word.FromAddress(x) }

func join(parts ...[]byte) []byte { return bytes.Join(parts, nil) }

// whole is an address with all its digits.
func whole(x api.Address) string { return fmt.Sprintf("0x%x", x[:]) }

// row is bytes as a script has them.
func row(b []byte) string { return "0x" + hex.EncodeToString(b) }

// pushed is code that pushes words, the last one first, so that the first one is the topmost; a word 0 costs 2, another one 3.
func pushed(words ...api.Word) []byte {
	var out []byte
	for _, x := range slices.Backward(words) {
		size := word.Size(x)
		all := word.Bytes(x)
		out = append(append(out, 0x5f+byte(size)), all[32-size:]...)
	}
	return out
}

// Pieces of code; what each leaves on the stack, if it leaves something, is one word.
func store(key, v uint64) []byte  { return join(pushed(n(key), n(v)), raw("55")) }
func tstore(key, v uint64) []byte { return join(pushed(n(key), n(v)), raw("5d")) }
func calls(to api.Address, v uint64) []byte {
	return join(pushed(wordOf(to), n(0), n(0), n(v)), raw("f8"))
}

// keep lays the word on the stack into a slot.
func keep(key uint64) []byte { return join(pushed(n(key)), raw("55")) }

var (
	drop    = raw("50")
	stop    = raw("00")
	invalid = raw("fe")
	reverts = raw("5f 5f fd")
	upwards = raw("3d 5f 5f 3e 3d 5f f3") // returns what was returned to it
	deploys = raw("5f 5f ee00")           // the first nested container, with nothing behind its data
	again   = raw("e0 fffd")              // the same instruction, till the gas is gone
)

// fitted is a container of these sections, the first one's type being the usual one, with the greatest heights declared.
func fitted(types []api.Type, subs [][]byte, data []byte, codes ...[]byte) []byte {
	c := api.Container{Types: append([]api.Type{{Out: never}}, types...), Codes: codes, Subs: subs, Data: data, Size: len(data)}
	for range codes {
		for s, code := range slices.Backward(codes) {
			heights, _, _ := flow.Heights(c.Types, s, code)
			c.Types[s].Most = flow.Most(heights)
		}
	}
	out, wrong := container.Serialize(c)
	if wrong != api.OK {
		panic(wrong)
	}
	return out
}

// coded is the bytes of a container of one section.
func coded(parts ...[]byte) []byte { return fitted(nil, nil, nil, join(parts...)) }

// with is the same with nested containers.
func with(subs [][]byte, parts ...[]byte) []byte { return fitted(nil, subs, nil, join(parts...)) }

// nest are nested containers.
func nest(l ...[]byte) [][]byte { return l }

// maker is a container to create with, whose section ends with code, by deploying a container that stops.
func maker(parts ...[]byte) []byte { return with(nest(coded(stop)), append(parts, deploys)...) }

// at is an account with a balance and a code (none: nil).
func at(x api.Address, balance uint64, code []byte) api.Account {
	return api.Account{Address: x, Balance: n(balance), Code: code}
}

// list is these accounts, rising.
func list(l ...api.Account) []api.Account {
	l = slices.Clone(l)
	slices.SortFunc(l, func(x, y api.Account) int { return bytes.Compare(x.Address[:], y.Address[:]) })
	return l
}

// account are the lines that make an account.
func account(x api.Account) []string {
	l := []string{fmt.Sprintf("account %s %d %s", whole(x.Address), x.Nonce, word.Text(x.Balance))}
	if len(x.Code) > 0 {
		l = append(l, "code "+whole(x.Address)+" "+row(x.Code))
	}
	for _, slot := range x.Slots {
		l = append(l, "slot "+whole(x.Address)+" "+word.Hex(slot.Key)+" "+word.Hex(slot.Value))
	}
	return l
}

// lines is a text of lines, each ended.
func lines(l ...string) string {
	if len(l) == 0 {
		return ""
	}
	return strings.Join(l, "\n") + "\n"
}

// short is a text, cut if it is long.
func short(text string) string {
	if len(text) > 1500 {
		return fmt.Sprintf("%s .. (%d bytes)", text[:1500], len(text))
	}
	return text
}

// apart is where two texts part: the lines there, and which.
func apart(got, want string) string {
	x, y := strings.SplitAfter(got, "\n"), strings.SplitAfter(want, "\n")
	for i := range max(len(x), len(y)) {
		switch {
		case i >= len(x):
			return fmt.Sprintf("line %d: nothing, not %q", i+1, short(y[i]))
		case i >= len(y):
			return fmt.Sprintf("line %d: %q, not nothing", i+1, short(x[i]))
		case x[i] != y[i]:
			return fmt.Sprintf("line %d: %q, not %q", i+1, short(x[i]), short(y[i]))
		}
	}
	return "nowhere"
}

// holds holds what a text tells.
func holds(t testing.TB, what any, text, want string) {
	t.Helper()
	if got := script.Run(text); got != want {
		t.Errorf("%v: %s tells\n%s", what, short(text), apart(got, want))
	}
}

// tells holds what these lines tell.
func tells(t testing.TB, text string, want ...string) {
	t.Helper()
	holds(t, "lines", text, lines(want...))
}
