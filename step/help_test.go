package step_test

import (
	"bytes"
	"encoding/hex"
	"fmt"
	"math/big"
	"slices"
	"strings"
	"testing"

	"vouch/api"
	"vouch/container"
	"vouch/step"
	"vouch/world"
)

const (
	never = api.NoReturn
	many  = 1 << 20 // more steps than any of these runs makes
)

// raw is bytes written in hexadecimal, with spaces or without.
func raw(text string) []byte {
	b, wrong := hex.DecodeString(strings.ReplaceAll(text, " ", ""))
	if wrong != nil {
		panic(wrong)
	}
	return b
}

// addr is the address 00..n.
func addr(n byte) api.Address { return api.Address{19: n} }

// self is whose frames these are.
var self = addr(10)

// n is a small number as a word.
func n(x uint64) api.Word { return api.Word{x} }

// numbers are small numbers as words.
func numbers(l ...uint64) []api.Word {
	var out []api.Word
	for _, x := range l {
		out = append(out, n(x))
	}
	return out
}

// power is 2^bits as a word.
func power(bits int) api.Word {
	var x api.Word
	x[bits/64] = 1 << (bits % 64)
	return x
}

// less is the word that lies below 2^256 by x, and top the greatest one.
func less(x uint64) api.Word { return api.Word{-x, 1<<64 - 1, 1<<64 - 1, 1<<64 - 1} }

var top = less(1)

// plainNumber is a word as a number without bound.
func plainNumber(x api.Word) *big.Int {
	out := new(big.Int)
	for i := 3; i >= 0; i-- {
		out.Or(out.Lsh(out, 64), new(big.Int).SetUint64(x[i]))
	}
	return out
}

// wordBytes is a word as 32 bytes.
func wordBytes(x api.Word) []byte { return plainNumber(x).FillBytes(make([]byte, 32)) }

// bytesWord is the word that 32 bytes, or fewer, are.
func bytesWord(b []byte) api.Word {
	p := new(big.Int).SetBytes(b)
	var x api.Word
	for i := range x {
		x[i] = new(big.Int).Rsh(p, uint(64*i)).Uint64()
	}
	return x
}

// addressWord is an address as a word.
func addressWord(a api.Address) api.Word { return bytesWord(a[:]) }

// pushed is code that pushes words, the last one first, so that the first one is the topmost; each costs 3.
func pushed(words ...api.Word) []byte {
	var b []byte
	for _, x := range slices.Backward(words) {
		b = append(append(b, 0x7f), wordBytes(x)...)
	}
	return b
}

// zeros is code that pushes so many words 0; each costs 2.
func zeros(words int) []byte { return bytes.Repeat([]byte{0x5f}, words) }

// dump is code that lays so many words behind memory, the topmost first, and takes back with all of memory.
func dump(words int) []byte {
	return append(bytes.Repeat([]byte{0x59, 0x52}, words), 0x59, 0x5f, 0xfd)
}

// frame is what a run is begun with.
type frame struct {
	accounts []api.Account
	begin    []api.Address // what is warm
	c        api.Container
	f        api.Frame
}

// of is a frame of one section: Self has the balance 7, nobody else is there.
func of(code ...[]byte) *frame {
	return &frame{
		accounts: []api.Account{{Address: self, Balance: n(7)}},
		c:        api.Container{Types: []api.Type{{Out: never}}, Codes: [][]byte{bytes.Join(code, nil)}},
		f:        api.Frame{Self: self, Gas: 10000, Kind: api.Runtime},
	}
}

// coded is the same of bytes in hexadecimal.
func coded(text string) *frame { return of(raw(text)) }

func (x *frame) gas(n uint64) *frame           { x.f.Gas = n; return x }
func (x *frame) still() *frame                 { x.f.Still = true; return x }
func (x *frame) init() *frame                  { x.f.Kind = api.Init; return x }
func (x *frame) depth(n int) *frame            { x.f.Depth = n; return x }
func (x *frame) input(b []byte) *frame         { x.f.Input = b; return x }
func (x *frame) data(b []byte) *frame          { x.c.Data, x.c.Size = b, len(b); return x }
func (x *frame) subs(l ...[]byte) *frame       { x.c.Subs = l; return x }
func (x *frame) warm(l ...api.Address) *frame  { x.begin = l; return x }
func (x *frame) world(l ...api.Account) *frame { x.accounts = l; return x }
func (x *frame) turn(t func(x *frame)) *frame  { t(x); return x }
func (x *frame) length(section int) int        { return len(x.c.Codes[section]) }
func (x *frame) String() string                { return fmt.Sprintf("%x with %d gas", x.c.Codes, x.f.Gas) }
func (x *frame) block(b api.Block) *frame      { x.f.Block = b; return x }
func (x *frame) balance(v api.Word) *frame     { x.accounts[0].Balance = v; return x }
func (x *frame) account(a api.Account) *frame  { x.accounts = append(x.accounts, a); return x }
func (x *frame) blobs(l ...api.Hash) *frame    { x.f.Blobs = l; return x }
func (x *frame) section(t api.Type, code []byte) *frame {
	x.c.Types, x.c.Codes = append(x.c.Types, t), append(x.c.Codes, code)
	return x
}

// made is the world of the frame.
func (x *frame) made(t testing.TB) *world.World {
	t.Helper()
	w, wrong, at := world.New(x.accounts)
	if wrong != api.OK {
		t.Fatalf("the world: %v at %d", wrong, at)
	}
	w.Begin(x.begin...)
	return w
}

// over is a run of the frame over a world.
func (x *frame) over(t testing.TB, w *world.World) *step.Run {
	t.Helper()
	r, wrong := step.New(w, x.c, x.f)
	if wrong != api.OK || r == nil {
		t.Fatalf("%v: New: %v", x, wrong)
	}
	return r
}

// begun is a run of the frame over a world of its own.
func (x *frame) begun(t testing.TB) (*step.Run, *world.World) {
	t.Helper()
	w := x.made(t)
	return x.over(t, w), w
}

// gone is a run that has gone as far as it goes, and its steps.
func (x *frame) gone(t testing.TB) (*step.Run, *world.World, int) {
	t.Helper()
	r, w := x.begun(t)
	return r, w, r.Go(many)
}

func alikeEnds(a, b api.Ending) bool {
	return a.Kind == b.Kind && a.Why == b.Why && bytes.Equal(a.Output, b.Output) && a.Left == b.Left && a.Sub == b.Sub && bytes.Equal(a.Behind, b.Behind)
}

func alikeAsks(a, b api.Ask) bool {
	return a.Kind == b.Kind && a.To == b.To && a.Value == b.Value && bytes.Equal(a.Input, b.Input) && a.Gas == b.Gas && a.Sub == b.Sub && a.Salt == b.Salt
}

func halted(why int) api.Ending  { return api.Ending{Kind: api.EndHalt, Why: why} }
func faulted(why int) api.Ending { return api.Ending{Kind: api.EndFault, Why: why} }

// ends: it goes so many steps, and ends so, at that place of section 0.
func (x *frame) ends(t *testing.T, steps, at int, want api.Ending) *world.World {
	t.Helper()
	r, w, made := x.gone(t)
	got, ok := r.Ended()
	if made != steps || !ok || !alikeEnds(got, want) {
		t.Errorf("%v: %d steps, %+v, %v; not %d steps, %+v", x, made, got, ok, steps, want)
	}
	if s := r.Sight(); s != (api.Sight{State: api.Ended, At: at, Left: want.Left}) {
		t.Errorf("%v: %+v, not at %d", x, s, at)
	}
	return w
}

// endsSo: it ends so, wherever.
func (x *frame) endsSo(t *testing.T, want api.Ending) *world.World {
	t.Helper()
	r, w, _ := x.gone(t)
	if got, ok := r.Ended(); !ok || !alikeEnds(got, want) {
		t.Errorf("%v: %+v, %v, not %+v", x, got, ok, want)
	}
	return w
}

// asksFor is a run that asks for this, and its world.
func (x *frame) asksFor(t *testing.T, want api.Ask) (*step.Run, *world.World) {
	t.Helper()
	r, w, _ := x.gone(t)
	if got, ok := r.Asked(); !ok || r.State() != api.Asking || !alikeAsks(got, want) {
		t.Errorf("%v: asks %+v, %v, not %+v (%+v)", x, got, ok, want, r.Sight())
	}
	return r, w
}

// bytesOf is a container's bytes.
func bytesOf(c api.Container) []byte {
	b, wrong := container.Serialize(c)
	if wrong != api.OK {
		panic(wrong)
	}
	return b
}

// least is the bytes of a container of one instruction that ends.
func least(code byte) []byte {
	return raw("ef0001 010004 0200010001 ff000000 00800000" + fmt.Sprintf("%02x", code))
}

// sized is the bytes of such a container, with data declared so long, of which so many are there.
func sized(code byte, declared, there int) []byte {
	b := least(code)
	b[12], b[13] = byte(declared>>8), byte(declared)
	return append(b, bytes.Repeat([]byte{0xda}, there)...)
}

// addresses are those that are asked about where nothing else is said; keys likewise.
func addresses() []api.Address {
	return []api.Address{{}, addr(1), addr(9), self, addr(11), addr(12), {0: 1}, {0: 0xff, 19: 10}}
}

func keys() []api.Word { return append(numbers(0, 1, 2, 5), top, power(64), power(255)) }

// worldText is all that a world tells of these addresses and keys, without a change.
func worldText(w *world.World, addresses []api.Address, keys []api.Word) string {
	var b strings.Builder
	fmt.Fprintf(&b, "owed %d, sum %x\nlogs %x\n", w.Owed(), w.Sum(), w.Logs())
	for _, x := range w.Accounts() {
		fmt.Fprintf(&b, "account %x %d %x %x %x\n", x.Address, x.Nonce, x.Balance, x.Code, x.Slots)
	}
	mark := w.Mark()
	for _, a := range addresses {
		fmt.Fprintf(&b, "%x warm %v\n", a, w.Warm(a))
	}
	for _, k := range keys {
		fmt.Fprintf(&b, "%x: %x, at first %x, transient %x, warm %v\n", k, w.Get(self, k), w.Original(self, k), w.TGet(self, k), w.WarmSlot(self, k))
	}
	w.Back(mark)
	return b.String()
}

// seen is worldText of the usual ones.
func seen(w *world.World) string { return worldText(w, addresses(), keys()) }

// isWarm: is an address warm? It is asked behind a mark, and taken back; isWarmSlot likewise of a slot of Self.
func isWarm(w *world.World, a api.Address) bool {
	mark := w.Mark()
	defer w.Back(mark)
	return w.Warm(a)
}

func isWarmSlot(w *world.World, key api.Word) bool {
	mark := w.Mark()
	defer w.Back(mark)
	return w.WarmSlot(self, key)
}
