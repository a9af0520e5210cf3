package exec_test

import (
	"bytes"
	"encoding/hex"
	"fmt"
	"slices"
	"strings"
	"testing"

	"vouch/api"
	"vouch/call"
	"vouch/container"
	"vouch/exec"
	"vouch/flow"
	"vouch/word"
	"vouch/world"
)

const (
	never = api.NoReturn
	many  = 1 << 24 // more steps than any of these runs makes
)

var engines = []int{api.Checked, api.Fast}

// raw is bytes written in hexadecimal, with spaces or without.
func raw(text string) []byte {
	b, wrong := hex.DecodeString(strings.ReplaceAll(text, " ", ""))
	if wrong != nil {
		panic(wrong)
	}
	return b
}

// addr is the address 00..n.
func addr(n byte) api.Address { return api.Address{19: n} }

// The accounts of the chapter's examples, and some more.
var a, b, c, d, e = addr(10), addr(11), addr(12), addr(13), addr(14)

// n is a small number as a word.
func n(x uint64) api.Word { return api.Word{x} }

// wordOf is an address as a word.
func wordOf(x api.Address) api.Word { return word.FromAddress(x) }

func join(parts ...[]byte) []byte { return bytes.Join(parts, nil) }

// pushed is code that pushes words, the last one first, so that the first one is the topmost; a word 0 costs 2, another one 3.
func pushed(words ...api.Word) []byte {
	var out []byte
	for _, x := range slices.Backward(words) {
		size := word.Size(x)
		all := word.Bytes(x)
		out = append(append(out, 0x5f+byte(size)), all[32-size:]...)
	}
	return out
}

// Pieces of code; what each leaves on the stack, if it leaves something, is one word.
func store(key, v uint64) []byte  { return join(pushed(n(key), n(v)), raw("55")) }
func tstore(key, v uint64) []byte { return join(pushed(n(key), n(v)), raw("5d")) }
func tell(topic uint64) []byte    { return join(pushed(n(0), n(0), n(topic)), raw("a1")) }
func calls(to api.Address, v uint64) []byte {
	return join(pushed(wordOf(to), n(0), n(0), n(v)), raw("f8"))
}
func makes(sub byte, v, salt uint64) []byte {
	return join(pushed(n(v), n(salt), n(0), n(0)), []byte{0xec, sub})
}

// keep lays the word on the stack into a slot.
func keep(key uint64) []byte { return join(pushed(n(key)), raw("55")) }

var (
	drop    = raw("50")
	stop    = raw("00")
	invalid = raw("fe")
	reverts = raw("5f 5f fd")
	upwards = raw("3d 5f 5f 3e 3d 5f f3") // returns what was returned to it
	deploys = raw("5f 5f ee00")           // the first nested container, with nothing behind its data
	again   = raw("e0 fffd")              // the same instruction, till the gas is gone
)

// fitted is a container of these sections, the first one's type being the usual one, with the greatest heights declared.
func fitted(types []api.Type, subs [][]byte, data []byte, codes ...[]byte) []byte {
	c := api.Container{Types: append([]api.Type{{Out: never}}, types...), Codes: codes, Subs: subs, Data: data, Size: len(data)}
	for range codes {
		for s, code := range slices.Backward(codes) {
			heights, _, _ := flow.Heights(c.Types, s, code)
			c.Types[s].Most = flow.Most(heights)
		}
	}
	out, wrong := container.Serialize(c)
	if wrong != api.OK {
		panic(wrong)
	}
	return out
}

// coded is the bytes of a container of one section.
func coded(parts ...[]byte) []byte { return fitted(nil, nil, nil, join(parts...)) }

// with is the same with nested containers.
func with(subs [][]byte, parts ...[]byte) []byte { return fitted(nil, subs, nil, join(parts...)) }

// nest are nested containers.
func nest(l ...[]byte) [][]byte { return l }

// maker is a container to create with, whose section ends with code, by deploying a container that stops.
func maker(parts ...[]byte) []byte { return with(nest(coded(stop)), append(parts, deploys)...) }

// long is a container to create with, so many bytes long.
func long(size int) []byte {
	short := len(fitted(nil, nest(coded(stop)), nil, deploys))
	return fitted(nil, nest(coded(stop)), make([]byte, size-short), deploys)
}

// at is an account with a balance and a code (none: nil).
func at(x api.Address, balance uint64, code []byte) api.Account {
	return api.Account{Address: x, Balance: n(balance), Code: code}
}

// rich is A, with the balance 100.
var rich = at(a, 100, nil)

// list is these accounts, rising.
func list(l ...api.Account) []api.Account {
	l = slices.Clone(l)
	slices.SortFunc(l, func(x, y api.Account) int { return bytes.Compare(x.Address[:], y.Address[:]) })
	return l
}

// from is a message of A's to B.
func from(gas uint64) api.Message { return api.Message{From: a, To: b, Gas: gas} }

// valued is one with a value.
func valued(v, gas uint64) api.Message { return api.Message{From: a, To: b, Value: n(v), Gas: gas} }

// making is a message of A's that makes an account.
func making(start []byte, gas uint64) api.Message {
	return api.Message{From: a, Gas: gas, Make: true, Init: start}
}

// executed is what Execute tells of a message that is taken.
func executed(t testing.TB, l []api.Account, b api.Block, m api.Message, engine int) (api.Result, []api.Account) {
	t.Helper()
	x, behind, err := exec.Execute(l, b, m, engine)
	if err != nil {
		t.Fatalf("Execute: %v", err)
	}
	return x, behind
}

// begun is a Start of a message that is taken.
func begun(t testing.TB, l []api.Account, b api.Block, m api.Message, engine int) *exec.Start {
	t.Helper()
	s, err := exec.Begin(l, b, m, engine)
	if err != nil || s == nil {
		t.Fatalf("Begin: %v, %v", s, err)
	}
	return s
}

func alikeLogs(x, y api.Log) bool {
	return x.Address == y.Address && slices.Equal(x.Topics, y.Topics) && bytes.Equal(x.Data, y.Data)
}

// alike: two results are the same, field by field.
func alike(x, y api.Result) bool {
	return x.Status == y.Status && x.Why == y.Why && bytes.Equal(x.Output, y.Output) && x.Left == y.Left && x.Back == y.Back &&
		x.Steps == y.Steps && slices.EqualFunc(x.Logs, y.Logs, alikeLogs) && x.Made == y.Made
}

// same: two lists of accounts are.
func same(x, y []api.Account) bool {
	return slices.EqualFunc(x, y, func(x, y api.Account) bool {
		return x.Address == y.Address && x.Nonce == y.Nonce && x.Balance == y.Balance && bytes.Equal(x.Code, y.Code) && slices.Equal(x.Slots, y.Slots)
	})
}

// wants: a result, and the accounts behind it, are these.
func wants(t testing.TB, what any, got, want api.Result, behind, accounts []api.Account) {
	t.Helper()
	if !alike(got, want) {
		t.Errorf("%v: %+v, not %+v", what, got, want)
	}
	if !same(behind, accounts) {
		t.Errorf("%v: the accounts\n%s\nnot\n%s", what, text(behind), text(accounts))
	}
}

// text is accounts, a line each.
func text(l []api.Account) string {
	var out []byte
	for _, x := range l {
		out = fmt.Appendf(out, "%x nonce %d balance %v code %x slots %v\n", x.Address, x.Nonce, x.Balance, x.Code, x.Slots)
	}
	return string(out)
}

// copyOf shares nothing with l.
func copyOf(l []api.Account) []api.Account {
	out := slices.Clone(l)
	for i := range out {
		out[i].Code, out[i].Slots = slices.Clone(out[i].Code), slices.Clone(out[i].Slots)
	}
	return out
}

// plain is a message's run by the layers below: what it tells ahead of each step, and at its end.
type plain struct {
	seen     []api.Seen
	result   api.Result
	accounts []api.Account
}

// below lets a message run over a world, by the layers below.
func below(t testing.TB, w *world.World, b api.Block, m api.Message, engine int) plain {
	t.Helper()
	r, wrong := call.New(w, b, m, engine)
	if wrong != api.OK {
		t.Fatalf("New: %v", wrong)
	}
	var x plain
	for s, more := r.Next(); more; s, more = r.Next() {
		x.seen = append(x.seen, s)
		r.Go(1)
	}
	x.result, _ = r.Ended()
	x.accounts = w.Accounts()
	return x
}

// worldOf is the world of a list that is one.
func worldOf(t testing.TB, l []api.Account) *world.World {
	t.Helper()
	w, wrong, i := world.New(l)
	if wrong != api.OK {
		t.Fatalf("the world: %v at %d", wrong, i)
	}
	return w
}
