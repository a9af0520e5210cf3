package fast_test

import (
	"bytes"
	"encoding/hex"
	"fmt"
	"math/big"
	"slices"
	"strings"
	"testing"

	"vouch/api"
	"vouch/container"
	"vouch/fast"
	"vouch/flow"
	"vouch/step"
	"vouch/valid"
	"vouch/world"
)

const (
	never = api.NoReturn
	many  = 1 << 20 // more steps than any of these runs makes
)

// raw is bytes written in hexadecimal, with spaces or without.
func raw(text string) []byte {
	b, wrong := hex.DecodeString(strings.ReplaceAll(text, " ", ""))
	if wrong != nil {
		panic(wrong)
	}
	return b
}

// addr is the address 00..n.
func addr(n byte) api.Address { return api.Address{19: n} }

// self is whose frames these are.
var self = addr(10)

// n is a small number as a word.
func n(x uint64) api.Word { return api.Word{x} }

// numbers are small numbers as words.
func numbers(l ...uint64) []api.Word {
	var out []api.Word
	for _, x := range l {
		out = append(out, n(x))
	}
	return out
}

// rising are the words 1, 2, .. , so many.
func rising(count int) []api.Word {
	var l []api.Word
	for i := range count {
		l = append(l, n(uint64(i+1)))
	}
	return l
}

// power is 2^bits as a word.
func power(bits int) api.Word {
	var x api.Word
	x[bits/64] = 1 << (bits % 64)
	return x
}

// less is the word that lies below 2^256 by x, and top the greatest one.
func less(x uint64) api.Word { return api.Word{-x, 1<<64 - 1, 1<<64 - 1, 1<<64 - 1} }

var top = less(1)

// plainNumber is a word as a number without bound.
func plainNumber(x api.Word) *big.Int {
	out := new(big.Int)
	for i := 3; i >= 0; i-- {
		out.Or(out.Lsh(out, 64), new(big.Int).SetUint64(x[i]))
	}
	return out
}

// wordBytes is a word as 32 bytes.
func wordBytes(x api.Word) []byte { return plainNumber(x).FillBytes(make([]byte, 32)) }

// bytesWord is the word that 32 bytes, or fewer, are.
func bytesWord(b []byte) api.Word {
	p := new(big.Int).SetBytes(b)
	var x api.Word
	for i := range x {
		x[i] = new(big.Int).Rsh(p, uint(64*i)).Uint64()
	}
	return x
}

// addressWord is an address as a word.
func addressWord(a api.Address) api.Word { return bytesWord(a[:]) }

// counted is so many bytes, rising from one on.
func counted(from byte, size int) []byte {
	b := make([]byte, size)
	for i := range b {
		b[i] = from + byte(i)
	}
	return b
}

// zero is so many bytes 0.
func zero(size int) []byte { return make([]byte, size) }

// hashOf is the hash of 32 bytes x.
func hashOf(x byte) api.Hash { return api.Hash(bytes.Repeat([]byte{x}, 32)) }

// pushed is code that pushes words, the last one first, so that the first one is the topmost; each costs 3.
func pushed(words ...api.Word) []byte {
	var b []byte
	for _, x := range slices.Backward(words) {
		b = append(append(b, 0x7f), wordBytes(x)...)
	}
	return b
}

// zeros is code that pushes so many words 0; each costs 2.
func zeros(words int) []byte { return bytes.Repeat([]byte{0x5f}, words) }

// dump is code that lays so many words behind memory, the topmost first, and takes back with all of memory.
func dump(words int) []byte {
	return append(bytes.Repeat([]byte{0x59, 0x52}, words), 0x59, 0x5f, 0xfd)
}

// machine is what either machine answers, and the model.
type machine interface {
	Go(steps int) int
	State() int
	Asked() (api.Ask, bool)
	Give(x api.Reply) api.Errno
	Ended() (api.Ending, bool)
	Sight() api.Sight
}

// frame is what a run is begun with.
type frame struct {
	accounts []api.Account
	begin    []api.Address // what is warm
	c        api.Container
	f        api.Frame
}

// of is a frame of one section: Self has the balance 7, nobody else is there.
func of(code ...[]byte) *frame {
	return &frame{
		accounts: []api.Account{{Address: self, Balance: n(7)}},
		c:        api.Container{Types: []api.Type{{Out: never}}, Codes: [][]byte{bytes.Join(code, nil)}},
		f:        api.Frame{Self: self, Gas: 10000, Kind: api.Runtime},
	}
}

// coded is the same of bytes in hexadecimal.
func coded(text string) *frame { return of(raw(text)) }

func (x *frame) gas(n uint64) *frame          { x.f.Gas = n; return x }
func (x *frame) still() *frame                { x.f.Still = true; return x }
func (x *frame) init() *frame                 { x.f.Kind = api.Init; return x }
func (x *frame) depth(n int) *frame           { x.f.Depth = n; return x }
func (x *frame) input(b []byte) *frame        { x.f.Input = b; return x }
func (x *frame) data(b []byte) *frame         { x.c.Data, x.c.Size = b, len(b); return x }
func (x *frame) subs(l ...[]byte) *frame      { x.c.Subs = l; return x }
func (x *frame) turn(t func(x *frame)) *frame { t(x); return x }
func (x *frame) length(section int) int       { return len(x.c.Codes[section]) }
func (x *frame) block(b api.Block) *frame     { x.f.Block = b; return x }
func (x *frame) account(a api.Account) *frame { x.accounts = append(x.accounts, a); return x }
func (x *frame) blobs(l ...api.Hash) *frame   { x.f.Blobs = l; return x }
func (x *frame) section(t api.Type, code ...[]byte) *frame {
	x.c.Types, x.c.Codes = append(x.c.Types, t), append(x.c.Codes, bytes.Join(code, nil))
	return x
}

func (x *frame) String() string {
	b := fmt.Sprintf("%x", x.c.Codes)
	return fmt.Sprintf("%s with %d gas", b[:min(len(b), 600)], x.f.Gas)
}

// fit declares of each section the greatest height that it has, as valid code does; from the last one on, since what a section names must be declared first.
func (x *frame) fit() *frame {
	for range x.c.Codes {
		for s, b := range slices.Backward(x.c.Codes) {
			heights, _, _ := flow.Heights(x.c.Types, s, b)
			x.c.Types[s].Most = flow.Most(heights)
		}
	}
	return x
}

// made is the world of the frame.
func (x *frame) made(t testing.TB) *world.World {
	t.Helper()
	w, wrong, at := world.New(x.accounts)
	if wrong != api.OK {
		t.Fatalf("the world: %v at %d", wrong, at)
	}
	w.Begin(x.begin...)
	return w
}

// judged is the frame's container as valid code.
func (x *frame) judged(t testing.TB) *valid.Code {
	t.Helper()
	c, no := valid.Validate(bytesOf(x.c), x.f.Kind)
	if c == nil {
		t.Fatalf("%v is not valid: %+v", x, no)
	}
	return c
}

// side is a run and its world.
type side struct {
	machine
	w *world.World
}

// fast is a run of New over a world of its own.
func (x *frame) fast(t testing.TB) side {
	t.Helper()
	w := x.made(t)
	r, wrong := fast.New(w, x.judged(t), x.f)
	if wrong != api.OK || r == nil {
		t.Fatalf("%v: New: %v", x, wrong)
	}
	return side{r, w}
}

// bare is a run of Bare over a world of its own.
func (x *frame) bare(t testing.TB) side {
	t.Helper()
	w := x.made(t)
	r, wrong := fast.Bare(w, x.c, x.f)
	if wrong != api.OK || r == nil {
		t.Fatalf("%v: Bare: %v", x, wrong)
	}
	return side{r, w}
}

// checked is a run of the checked machine over a world of its own.
func (x *frame) checked(t testing.TB) side {
	t.Helper()
	w := x.made(t)
	r, wrong := step.New(w, x.c, x.f)
	if wrong != api.OK || r == nil {
		t.Fatalf("%v: step.New: %v", x, wrong)
	}
	return side{r, w}
}

func alikeEnds(a, b api.Ending) bool {
	return a.Kind == b.Kind && a.Why == b.Why && bytes.Equal(a.Output, b.Output) && a.Left == b.Left && a.Sub == b.Sub && bytes.Equal(a.Behind, b.Behind)
}

func alikeAsks(a, b api.Ask) bool {
	return a.Kind == b.Kind && a.To == b.To && a.Value == b.Value && bytes.Equal(a.Input, b.Input) && a.Gas == b.Gas && a.Sub == b.Sub && a.Salt == b.Salt
}

func halted(why int) api.Ending { return api.Ending{Kind: api.EndHalt, Why: why} }

// ends: a run goes so many steps, and ends so, at that place.
func (s side) ends(t testing.TB, what any, steps int, at api.Place, want api.Ending) {
	t.Helper()
	made := s.Go(many)
	got, ok := s.Ended()
	if made != steps || !ok || !alikeEnds(got, want) {
		t.Errorf("%v: %d steps, %+v, %v; not %d steps, %+v", what, made, got, ok, steps, want)
	}
	if got := s.Sight(); got != (api.Sight{State: api.Ended, Section: at.Section, At: at.At, Left: want.Left}) || s.State() != api.Ended {
		t.Errorf("%v: %+v, not at %+v", what, got, at)
	}
	if made := s.Go(5); made != 0 {
		t.Errorf("%v: %d steps behind the end", what, made)
	}
}

// goes: New's run of the frame, whose container is valid, ends so at that place of section 0; and so do the bare and the checked one.
func (x *frame) goes(t *testing.T, steps, at int, want api.Ending) *world.World {
	t.Helper()
	x.checked(t).ends(t, x, steps, api.Place{At: at}, want)
	x.bare(t).ends(t, x, steps, api.Place{At: at}, want)
	s := x.fast(t)
	s.ends(t, x, steps, api.Place{At: at}, want)
	return s.w
}

// bares: a bare run of the frame ends so at that place.
func (x *frame) bares(t *testing.T, steps int, at api.Place, want api.Ending) *world.World {
	t.Helper()
	s := x.bare(t)
	s.ends(t, x, steps, at, want)
	return s.w
}

// bytesOf is a container's bytes.
func bytesOf(c api.Container) []byte {
	b, wrong := container.Serialize(c)
	if wrong != api.OK {
		panic(wrong)
	}
	return b
}

// least is the bytes of a container of one instruction that ends.
func least(code byte) []byte {
	return raw("ef0001 010004 0200010001 ff000000 00800000" + fmt.Sprintf("%02x", code))
}

// sized is the bytes of such a container, with data declared so long, of which so many are there.
func sized(code byte, declared, there int) []byte {
	b := least(code)
	b[12], b[13] = byte(declared>>8), byte(declared)
	return append(b, bytes.Repeat([]byte{0xda}, there)...)
}

// rich is a frame in which instructions find something.
func rich(code ...[]byte) *frame {
	x := of(code...)
	x.accounts[0].Code, x.accounts[0].Slots = least(0x00), []api.Slot{{Key: n(1), Value: n(9)}}
	x.f.Caller, x.f.Origin = addr(0xca), addr(0x05)
	x.f.Value, x.f.Price = n(0x7a), power(200)
	x.f.Block = api.Block{Number: 100, Time: 1 << 63, Coinbase: api.Address{0: 0xc0}, Random: top, Limit: 1<<64 - 1, Chain: n(77), Base: power(100), BlobBase: power(101), Hashes: []api.Hash{hashOf(1), hashOf(2)}}
	return x.input(counted(1, 40)).data(counted(0x81, 40)).blobs(hashOf(7), hashOf(8))
}
