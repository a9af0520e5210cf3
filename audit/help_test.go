package audit_test

import (
	"bytes"
	"encoding/hex"
	"fmt"
	"runtime"
	"slices"
	"strings"
	"testing"
	"time"

	"vouch/api"
	"vouch/audit"
	"vouch/container"
	"vouch/flow"
	"vouch/valid"
	"vouch/word"
)

const never = api.NoReturn

// raw is bytes written in hexadecimal, with spaces or without.
func raw(text string) []byte {
	b, wrong := hex.DecodeString(strings.ReplaceAll(text, " ", ""))
	if wrong != nil {
		panic(wrong)
	}
	return b
}

// addr is the address 00..n.
func addr(n int) api.Address { return api.Address{18: byte(n >> 8), 19: byte(n)} }

// Some accounts' addresses.
var a, b, c, d, e = addr(10), addr(11), addr(12), addr(13), addr(14)

// n is a small number as a word.
func n(x uint64) api.Word { return api.Word{x} }

// wordOf is an address as a word.
func wordOf(x api.Address) api.Word { return word.FromAddress(x) }

func join(parts ...[]byte) []byte { return bytes.Join(parts, nil) }

// typed is types by their numbers, three of each, behind that of the first section, of which only Most is given.
func typed(most int, numbers ...int) []api.Type {
	types := []api.Type{{Out: never, Most: most}}
	for ; len(numbers) > 0; numbers = numbers[3:] {
		types = append(types, api.Type{In: numbers[0], Out: numbers[1], Most: numbers[2]})
	}
	return types
}

// of is a container with these types and sections.
func of(types []api.Type, codes ...string) api.Container {
	c := api.Container{Types: types}
	for _, text := range codes {
		c.Codes = append(c.Codes, raw(text))
	}
	return c
}

// stop is the least container that runs, and stuck the least one for both kinds.
func stop() api.Container  { return of(typed(0), "00") }
func stuck() api.Container { return of(typed(0), "fe") }

// with is the container with these nested in it.
func with(c api.Container, subs ...[]byte) api.Container {
	c.Subs = slices.Concat(c.Subs, subs)
	return c
}

// declared is the container with data so long, of which so many are at hand.
func declared(c api.Container, size, there int) api.Container {
	c.Size, c.Data = size, bytes.Repeat([]byte{0xda}, there)
	return c
}

// bytesOf is a container's bytes.
func bytesOf(c api.Container) []byte {
	b, wrong := container.Serialize(c)
	if wrong != api.OK {
		panic(wrong)
	}
	return b
}

// high declares the greatest heights that a container's sections have.
func high(c api.Container) api.Container {
	for range c.Codes {
		for s, code := range slices.Backward(c.Codes) {
			heights, _, _ := flow.Heights(c.Types, s, code)
			c.Types[s].Most = flow.Most(heights)
		}
	}
	return c
}

// makes is a container for both kinds that names each of these, to make accounts with them.
func makes(subs ...[]byte) []byte {
	text := ""
	for i := range subs {
		text += fmt.Sprintf("5f 5f 5f 5f ec %02x 50 ", i)
	}
	return bytesOf(high(with(of(typed(0), text+"fe"), subs...)))
}

// lays is a container to make accounts with that names each of these, to lay them.
func lays(subs ...[]byte) []byte {
	text := ""
	for i := range subs {
		text += fmt.Sprintf("5f e1 0004 5f 5f ee %02x ", i)
	}
	return bytesOf(high(with(of(typed(0), text+"fe"), subs...)))
}

// data is a valid container so many bytes long.
func data(size int) []byte {
	return bytesOf(declared(stop(), size-20, size-20))
}

// long is one that is made of long sections; many is how many of 9000 bytes.
func long(many int) []byte {
	c := api.Container{}
	for i := range many {
		end := []byte{0xe5, byte((i + 1) >> 8), byte(i + 1)}
		if i == many-1 {
			end = []byte{0x00}
		}
		c.Types = append(c.Types, api.Type{Out: never})
		c.Codes = append(c.Codes, append(bytes.Repeat([]byte{0x5b}, 9000-len(end)), end...))
	}
	return bytesOf(c)
}

// at is an account with a balance and a code (none: nil).
func at(x api.Address, balance uint64, code []byte) api.Account {
	return api.Account{Address: x, Balance: n(balance), Code: code}
}

// no is a refusal.
func no(wrong api.Errno, section, at int, path ...int) api.Reject {
	return api.Reject{Code: wrong, Path: path, Section: section, At: at}
}

// saying is a verdict.
func saying(x api.Address, no api.Reject) api.Verdict { return api.Verdict{Address: x, Reject: no} }

// alone is what is to be told of a list: account by account, what Validate says of its code.
func alone(l []api.Account) []api.Verdict {
	var all []api.Verdict
	for _, x := range l {
		if len(x.Code) == 0 {
			continue
		}
		_, no := valid.Validate(x.Code, api.Runtime)
		all = append(all, saying(x.Address, no))
	}
	return all
}

// same: do two verdicts say the same?
func same(x, y api.Verdict) bool {
	return x.Address == y.Address && x.Reject.Code == y.Reject.Code && x.Reject.Section == y.Reject.Section && x.Reject.At == y.Reject.At && slices.Equal(x.Reject.Path, y.Reject.Path)
}

// alike holds what is told against what is to be told.
func alike(t testing.TB, what any, got, want []api.Verdict) {
	t.Helper()
	for i := range min(len(got), len(want)) {
		if !same(got[i], want[i]) {
			t.Fatalf("%v: verdict %d of %d: %+v, not %+v", what, i, len(want), got[i], want[i])
		}
	}
	if len(got) != len(want) {
		t.Fatalf("%v: %d verdicts, not %d", what, len(got), len(want))
	}
}

// audited is what is told of a list.
func audited(t testing.TB, what any, l []api.Account, workers int) []api.Verdict {
	t.Helper()
	got, wrong := audit.Audit(l, workers)
	if wrong != api.OK {
		t.Fatalf("%v, by %d: error %d", what, workers, wrong)
	}
	return got
}

// tells holds what is told of a list, by each number of workers.
func tells(t testing.TB, what any, l []api.Account, want ...api.Verdict) {
	t.Helper()
	for workers := 1; workers <= api.MaxWorkers; workers++ {
		alike(t, fmt.Sprint(what, ", by ", workers), audited(t, what, l, workers), want)
	}
}

// list is these accounts, rising.
func list(l ...api.Account) []api.Account {
	l = slices.Clone(l)
	slices.SortFunc(l, func(x, y api.Account) int { return bytes.Compare(x.Address[:], y.Address[:]) })
	return l
}

// copyOf shares nothing with l.
func copyOf(l []api.Account) []api.Account {
	out := slices.Clone(l)
	for i := range out {
		out[i].Code, out[i].Slots = slices.Clone(out[i].Code), slices.Clone(out[i].Slots)
	}
	return out
}

// text is accounts, a line each, with the spare room of their lists.
func text(l []api.Account) string {
	var out []byte
	for _, x := range l[:cap(l)] {
		out = fmt.Appendf(out, "%x nonce %d balance %v code %x of %d slots %v of %d\n", x.Address, x.Nonce, x.Balance, x.Code[:cap(x.Code)], len(x.Code), x.Slots[:cap(x.Slots)], len(x.Slots))
	}
	return string(out)
}

// noneLeft: there are no more goroutines than there were. One that has done all may still be on its way out.
func noneLeft(t testing.TB, what any, were int) {
	t.Helper()
	for range 2000 {
		if runtime.NumGoroutine() <= were {
			return
		}
		time.Sleep(time.Millisecond)
	}
	t.Fatalf("%v: %d goroutines, not %d", what, runtime.NumGoroutine(), were)
}

// atWork: does any goroutine judge something?
func atWork() bool {
	stacks := make([]byte, 1<<20)
	stacks = stacks[:runtime.Stack(stacks, true)]
	return bytes.Contains(stacks, []byte("vouch/valid.")) || bytes.Contains(stacks, []byte("vouch/container."))
}

var engines = []int{api.Checked, api.Fast}

// pushed is code that pushes words, the last one first, so that the first one is the topmost.
func pushed(words ...api.Word) []byte {
	var out []byte
	for _, x := range slices.Backward(words) {
		size := word.Size(x)
		all := word.Bytes(x)
		out = append(append(out, 0x5f+byte(size)), all[32-size:]...)
	}
	return out
}

// Pieces of code.
func store(key, v uint64) []byte  { return join(pushed(n(key), n(v)), raw("55")) }
func tstore(key, v uint64) []byte { return join(pushed(n(key), n(v)), raw("5d")) }

// keep lays the word on the stack into a slot.
func keep(key uint64) []byte { return join(pushed(n(key)), raw("55")) }

var (
	drop    = raw("50")
	invalid = raw("fe")
	upwards = raw("3d 5f 5f 3e 3d 5f f3") // returns what was returned to it
)
