package call_test

import (
	"bytes"
	"encoding/hex"
	"fmt"
	"slices"
	"strings"
	"testing"

	"vouch/api"
	"vouch/call"
	"vouch/container"
	"vouch/flow"
	"vouch/valid"
	"vouch/word"
	"vouch/world"
)

const (
	never = api.NoReturn
	many  = 1 << 22 // more steps than any of these runs makes
)

var engines = []int{api.Checked, api.Fast}

// raw is bytes written in hexadecimal, with spaces or without.
func raw(text string) []byte {
	b, wrong := hex.DecodeString(strings.ReplaceAll(text, " ", ""))
	if wrong != nil {
		panic(wrong)
	}
	return b
}

// addr is the address 00..n.
func addr(n byte) api.Address { return api.Address{19: n} }

// The accounts of the chapter's examples, and some more.
var a, b, c, d, e = addr(10), addr(11), addr(12), addr(13), addr(14)

// n is a small number as a word.
func n(x uint64) api.Word { return api.Word{x} }

// wordOf is an address as a word.
func wordOf(x api.Address) api.Word { return word.FromAddress(x) }

func join(parts ...[]byte) []byte { return bytes.Join(parts, nil) }

// pushed is code that pushes words, the last one first, so that the first one is the topmost; a word 0 costs 2, another one 3.
func pushed(words ...api.Word) []byte {
	var out []byte
	for _, x := range slices.Backward(words) {
		size := word.Size(x)
		all := word.Bytes(x)
		out = append(append(out, 0x5f+byte(size)), all[32-size:]...)
	}
	return out
}

// Pieces of code; what each leaves on the stack, if it leaves something, is one word.
func store(key, v uint64) []byte  { return join(pushed(n(key), n(v)), raw("55")) }
func tstore(key, v uint64) []byte { return join(pushed(n(key), n(v)), raw("5d")) }
func load(key uint64) []byte      { return join(pushed(n(key)), raw("54")) }
func tell(topic uint64) []byte    { return join(pushed(n(0), n(0), n(topic)), raw("a1")) }
func warms(x api.Address) []byte  { return join(pushed(wordOf(x)), raw("31 50")) }
func calls(to api.Address, v uint64) []byte {
	return join(pushed(wordOf(to), n(0), n(0), n(v)), raw("f8"))
}
func lends(to api.Address) []byte  { return join(pushed(wordOf(to), n(0), n(0)), raw("f9")) }
func stills(to api.Address) []byte { return join(pushed(wordOf(to), n(0), n(0)), raw("fb")) }
func makes(sub byte, v, salt uint64) []byte {
	return join(pushed(n(v), n(salt), n(0), n(0)), []byte{0xec, sub})
}

// keep lays the word on the stack into a slot.
func keep(key uint64) []byte { return join(pushed(n(key)), raw("55")) }

var (
	drop     = raw("50")
	stop     = raw("00")
	invalid  = raw("fe")
	reverts  = raw("5f 5f fd")
	upwards  = raw("3d 5f 5f 3e 3d 5f f3")    // returns what was returned to it
	answers  = raw("5f 52 6020 5f f3")        // returns the word on the stack
	deploys  = raw("5f 5f ee00")              // the first nested container, with nothing behind its data
	tellsAll = raw("5f 5f a0 5f 5c 5f 5d 00") // changes things: a still frame halts at its third step
)

// fitted is a container of these sections, the first one's type being the usual one, with the greatest heights declared.
func fitted(types []api.Type, subs [][]byte, data []byte, codes ...[]byte) []byte {
	c := api.Container{Types: append([]api.Type{{Out: never}}, types...), Codes: codes, Subs: subs, Data: data, Size: len(data)}
	for range codes {
		for s, code := range slices.Backward(codes) {
			heights, _, _ := flow.Heights(c.Types, s, code)
			c.Types[s].Most = flow.Most(heights)
		}
	}
	out, wrong := container.Serialize(c)
	if wrong != api.OK {
		panic(wrong)
	}
	return out
}

// coded is the bytes of a container of one section.
func coded(parts ...[]byte) []byte { return fitted(nil, nil, nil, join(parts...)) }

// with is the same with nested containers.
func with(subs [][]byte, parts ...[]byte) []byte { return fitted(nil, subs, nil, join(parts...)) }

// nest are nested containers.
func nest(l ...[]byte) [][]byte { return l }

// maker is a container to create with, whose section ends with code, by deploying a container that stops.
func maker(parts ...[]byte) []byte { return with(nest(coded(stop)), append(parts, deploys)...) }

// sized is a container that stops, with so many bytes of data.
func sized(data int) []byte { return fitted(nil, nil, make([]byte, data), stop) }

// open is a container that stops, of whose declared data some are missing.
func open(declared, there int) []byte {
	out := sized(declared)
	return out[:len(out)-declared+there]
}

// at is an account with a balance and a code (none: nil).
func at(x api.Address, balance uint64, code []byte) api.Account {
	return api.Account{Address: x, Balance: n(balance), Code: code}
}

// rich is A, with the balance 100.
var rich = at(a, 100, nil)

// made is the world of these accounts, in whatever order.
func made(t testing.TB, l ...api.Account) *world.World {
	t.Helper()
	l = slices.Clone(l)
	slices.SortFunc(l, func(x, y api.Account) int { return bytes.Compare(x.Address[:], y.Address[:]) })
	w, wrong, i := world.New(l)
	if wrong != api.OK {
		t.Fatalf("the world: %v at %d (%x)", wrong, i, l[i])
	}
	return w
}

// from is a message of A's to B.
func from(gas uint64) api.Message { return api.Message{From: a, To: b, Gas: gas} }

// valued is one with a value.
func valued(v, gas uint64) api.Message { return api.Message{From: a, To: b, Value: n(v), Gas: gas} }

// making is a message of A's that makes an account.
func making(start []byte, gas uint64) api.Message {
	return api.Message{From: a, Gas: gas, Make: true, Init: start}
}

// begun is a run of a message.
func begun(t testing.TB, w *world.World, m api.Message, engine int) *call.Run {
	t.Helper()
	r, wrong := call.New(w, api.Block{}, m, engine)
	if wrong != api.OK || r == nil {
		t.Fatalf("New: %v", wrong)
	}
	return r
}

// through lets a message run to its end.
func through(t testing.TB, w *world.World, m api.Message, engine int) api.Result {
	t.Helper()
	r := begun(t, w, m, engine)
	steps := r.Go(many)
	x, ended := r.Ended()
	if !ended || x.Steps != uint64(steps) {
		t.Fatalf("%d steps, %+v, %v", steps, x, ended)
	}
	return x
}

func alikeLogs(x, y api.Log) bool {
	return x.Address == y.Address && slices.Equal(x.Topics, y.Topics) && bytes.Equal(x.Data, y.Data)
}

func alike(x, y api.Result) bool {
	return x.Status == y.Status && x.Why == y.Why && bytes.Equal(x.Output, y.Output) && x.Left == y.Left && x.Back == y.Back &&
		x.Steps == y.Steps && slices.EqualFunc(x.Logs, y.Logs, alikeLogs) && x.Made == y.Made
}

// wants: a result is this one.
func wants(t testing.TB, what any, got, want api.Result) {
	t.Helper()
	if !alike(got, want) {
		t.Errorf("%v: %+v, not %+v", what, got, want)
	}
}

// known are the addresses and the keys that a world is asked about.
var known = knownAddresses()

func knownAddresses() []api.Address {
	l := []api.Address{{}, a, b, c, d, e, addr(0xcb), addr(99)}
	for _, by := range []api.Address{a, b, c, d, e} {
		for salt := range uint64(3) {
			l = append(l, call.Made(by, n(salt)))
		}
	}
	return l
}

// told is all that a world tells, marks too. What asks in a way that changes is taken back.
func told(x *world.World) string {
	mark := x.Mark()
	defer x.Back(mark)
	out := fmt.Appendf(nil, "marks %d, owed %d, sum %v\nlogs %x\n", mark, x.Owed(), x.Sum(), x.Logs())
	for _, l := range x.Accounts() {
		out = fmt.Appendf(out, "account %x %d %v %x %v\n", l.Address, l.Nonce, l.Balance, l.Code, l.Slots)
	}
	for _, l := range known {
		out = fmt.Appendf(out, "%x warm %v", l, x.Warm(l))
		for key := range uint64(6) {
			k := n(key)
			out = fmt.Appendf(out, " %v %v %v %v", x.Get(l, k)[0], x.Original(l, k)[0], x.TGet(l, k)[0], x.WarmSlot(l, k))
		}
		out = append(out, '\n')
	}
	return string(out)
}

// warm: is an address warm? It stays as it is.
func warm(x *world.World, l api.Address) bool {
	defer x.Back(x.Mark())
	return x.Warm(l)
}

// accounts is the accounts alone, as text.
func accounts(x *world.World) string { return fmt.Sprintf("%x", x.Accounts()) }

// isValid: bytes are a container that is valid.
func isValid(t testing.TB, code []byte, kind int) {
	t.Helper()
	if _, no := valid.Validate(code, kind); no.Code != api.OK {
		t.Fatalf("%x is not valid: %+v", code, no)
	}
}
