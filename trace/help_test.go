package trace_test

import (
	"bytes"
	"encoding/hex"
	"fmt"
	"iter"
	"runtime"
	"slices"
	"strings"
	"testing"
	"time"

	"vouch/api"
	"vouch/container"
	"vouch/exec"
	"vouch/flow"
	"vouch/trace"
	"vouch/word"
)

const never = api.NoReturn

var engines = []int{api.Checked, api.Fast}

// raw is bytes written in hexadecimal, with spaces or without.
func raw(text string) []byte {
	b, wrong := hex.DecodeString(strings.ReplaceAll(text, " ", ""))
	if wrong != nil {
		panic(wrong)
	}
	return b
}

// addr is the address 00..n.
func addr(n byte) api.Address { return api.Address{19: n} }

// The accounts of the chapter's examples, and some more.
var a, b, c, d, e = addr(10), addr(11), addr(12), addr(13), addr(14)

// n is a small number as a word.
func n(x uint64) api.Word { return api.Word{x} }

// wordOf is an address as a word.
func wordOf(x api.Address) api.Word { return word.FromAddress(x) }

func join(parts ...[]byte) []byte { return bytes.Join(parts, nil) }

// pushed is code that pushes words, the last one first, so that the first one is the topmost; a word 0 costs 2, another one 3.
func pushed(words ...api.Word) []byte {
	var out []byte
	for _, x := range slices.Backward(words) {
		size := word.Size(x)
		all := word.Bytes(x)
		out = append(append(out, 0x5f+byte(size)), all[32-size:]...)
	}
	return out
}

// Pieces of code; what each leaves on the stack, if it leaves something, is one word.
func store(key, v uint64) []byte  { return join(pushed(n(key), n(v)), raw("55")) }
func tstore(key, v uint64) []byte { return join(pushed(n(key), n(v)), raw("5d")) }
func tell(topic uint64) []byte    { return join(pushed(n(0), n(0), n(topic)), raw("a1")) }
func calls(to api.Address, v uint64) []byte {
	return join(pushed(wordOf(to), n(0), n(0), n(v)), raw("f8"))
}
func lends(to api.Address) []byte  { return join(pushed(wordOf(to), n(0), n(0)), raw("f9")) }
func stills(to api.Address) []byte { return join(pushed(wordOf(to), n(0), n(0)), raw("fb")) }
func makes(sub byte, v, salt uint64) []byte {
	return join(pushed(n(v), n(salt), n(0), n(0)), []byte{0xec, sub})
}

// keep lays the word on the stack into a slot.
func keep(key uint64) []byte { return join(pushed(n(key)), raw("55")) }

// expects tells a NOP, if the word on the stack is another one: so what leaves the word can be seen in the steps.
func expects(want api.Word) []byte { return join(pushed(want), raw("14 e10001 5b")) }

var (
	drop    = raw("50")
	stop    = raw("00")
	invalid = raw("fe")
	reverts = raw("5f 5f fd")
	upwards = raw("3d 5f 5f 3e 3d 5f f3") // returns what was returned to it
	deploys = raw("5f 5f ee00")           // the first nested container, with nothing behind its data
	again   = raw("e0 fffd")              // the same instruction, till the gas is gone
)

// nops is code that costs 1 each.
func nops(size int) []byte { return bytes.Repeat([]byte{0x5b}, size) }

// fitted is a container of these sections, the first one's type being the usual one, with the greatest heights declared.
func fitted(types []api.Type, subs [][]byte, data []byte, codes ...[]byte) []byte {
	c := api.Container{Types: append([]api.Type{{Out: never}}, types...), Codes: codes, Subs: subs, Data: data, Size: len(data)}
	for range codes {
		for s, code := range slices.Backward(codes) {
			heights, _, _ := flow.Heights(c.Types, s, code)
			c.Types[s].Most = flow.Most(heights)
		}
	}
	out, wrong := container.Serialize(c)
	if wrong != api.OK {
		panic(wrong)
	}
	return out
}

// coded is the bytes of a container of one section.
func coded(parts ...[]byte) []byte { return fitted(nil, nil, nil, join(parts...)) }

// with is the same with nested containers.
func with(subs [][]byte, parts ...[]byte) []byte { return fitted(nil, subs, nil, join(parts...)) }

// nest are nested containers.
func nest(l ...[]byte) [][]byte { return l }

// maker is a container to create with, whose section ends with code, by deploying a container that stops.
func maker(parts ...[]byte) []byte { return with(nest(coded(stop)), append(parts, deploys)...) }

// long is a container to create with, so many bytes long.
func long(size int) []byte {
	short := len(fitted(nil, nest(coded(stop)), nil, deploys))
	return fitted(nil, nest(coded(stop)), make([]byte, size-short), deploys)
}

// at is an account with a balance and a code (none: nil).
func at(x api.Address, balance uint64, code []byte) api.Account {
	return api.Account{Address: x, Balance: n(balance), Code: code}
}

// rich is A, with the balance 100.
var rich = at(a, 100, nil)

// list is these accounts, rising.
func list(l ...api.Account) []api.Account {
	l = slices.Clone(l)
	slices.SortFunc(l, func(x, y api.Account) int { return bytes.Compare(x.Address[:], y.Address[:]) })
	return l
}

// from is a message of A's to B.
func from(gas uint64) api.Message { return api.Message{From: a, To: b, Gas: gas} }

// valued is one with a value.
func valued(v, gas uint64) api.Message { return api.Message{From: a, To: b, Value: n(v), Gas: gas} }

// making is a message of A's that makes an account.
func making(start []byte, gas uint64) api.Message {
	return api.Message{From: a, Gas: gas, Make: true, Init: start}
}

// ask is what Follow is asked with.
type ask struct {
	l []api.Account
	b api.Block
	m api.Message
}

// followed is the sequence of a message that is taken.
func (x ask) followed(t testing.TB) iter.Seq[api.Seen] {
	t.Helper()
	seq, err := trace.Follow(x.l, x.b, x.m)
	if err != nil || seq == nil {
		t.Fatalf("Follow: %v, %v", seq != nil, err)
	}
	return seq
}

// byHand is what Next tells of a message that is taken ahead of each step, each made behind that by Go; and how it went.
func (x ask) byHand(t testing.TB, engine int) ([]api.Seen, api.Result) {
	t.Helper()
	s, err := exec.Begin(x.l, x.b, x.m, engine)
	if err != nil {
		t.Fatalf("Begin: %v", err)
	}
	var seen []api.Seen
	for {
		next, more := s.Next()
		if !more {
			break
		}
		seen = append(seen, next)
		if made := s.Go(1); made != 1 {
			t.Fatalf("%d steps of one", made)
		}
	}
	went, _, ended := s.Ended()
	if !ended {
		t.Fatal("it has not ended")
	}
	return seen, went
}

// first is what a sequence tells till so many steps were told.
func first(seq iter.Seq[api.Seen], many int) []api.Seen {
	var seen []api.Seen
	for x := range seq {
		seen = append(seen, x)
		if len(seen) == many {
			break
		}
	}
	return seen
}

// alike holds what is told against what is to be told.
func alike(t testing.TB, what any, got, want []api.Seen) {
	t.Helper()
	for i := range min(len(got), len(want)) {
		if got[i] != want[i] {
			t.Fatalf("%v: step %d of %d: %+v, not %+v", what, i, len(want), got[i], want[i])
		}
	}
	if len(got) != len(want) {
		t.Fatalf("%v: %d steps, not %d", what, len(got), len(want))
	}
}

// copyOf shares nothing with l.
func copyOf(l []api.Account) []api.Account {
	out := slices.Clone(l)
	for i := range out {
		out[i].Code, out[i].Slots = slices.Clone(out[i].Code), slices.Clone(out[i].Slots)
	}
	return out
}

// text is accounts, a line each.
func text(l []api.Account) string {
	var out []byte
	for _, x := range l {
		out = fmt.Appendf(out, "%x nonce %d balance %v code %x slots %v\n", x.Address, x.Nonce, x.Balance, x.Code, x.Slots)
	}
	return string(out)
}

// noneLeft: there are no more goroutines than there were. One that has done all may still be on its way out.
func noneLeft(t testing.TB, what any, were int) {
	t.Helper()
	for range 2000 {
		if runtime.NumGoroutine() <= were {
			return
		}
		time.Sleep(time.Millisecond)
	}
	t.Fatalf("%v: %d goroutines, not %d", what, runtime.NumGoroutine(), were)
}

// atWork: does any goroutine run something of the packages below?
func atWork() bool {
	stacks := make([]byte, 1<<20)
	stacks = stacks[:runtime.Stack(stacks, true)]
	return bytes.Contains(stacks, []byte("vouch/exec.")) || bytes.Contains(stacks, []byte("vouch/call."))
}
