package trace_test

import (
	"fmt"
	"runtime"
	"slices"
	"testing"
	"weak"

	"vouch/api"
	"vouch/call"
	"vouch/trace"
	"vouch/word"
)

// roomy is a list with spare room behind it, in which marks stand.
func roomy[T any](l []T, mark T) []T {
	out := make([]T, len(l)+5)
	copy(out, l)
	for i := len(l); i < len(out); i++ {
		out[i] = mark
	}
	return out[:len(l)]
}

// wordIn is the word that these bytes begin.
func wordIn(b []byte) api.Word {
	x, _ := word.FromBytes(append(slices.Clone(b), make([]byte, 32-len(b))...))
	return x
}

// roomyAsk is one whose lists all have spare room, and all of which are looked at by the run: a NOP is told, where one is not as it was.
func roomyAsk(makes bool) *ask {
	hash, blob, input := api.Hash{1: 1, 31: 7}, api.Hash{3: 3}, []byte{1, 2, 3}
	says := join(raw("6001 43 03 40"), expects(wordIn(hash[:])), raw("5f 49"), expects(wordIn(blob[:])), raw("5f 35"), expects(wordIn(input)), pushed(wordOf(d)), raw("31"), expects(n(4)))
	slot := join(raw("6001 54"), expects(n(5)))
	on := join(raw("36 5f 5f 37 5f 36 5f"), pushed(wordOf(c)), raw("f8 50"))
	x := &ask{m: valued(3, 900000)}
	x.b = api.Block{Number: 9, Hashes: roomy([]api.Hash{hash, {2: 2}}, api.Hash{0xaa})}
	x.m.Make = makes
	x.m.Input, x.m.Blobs = roomy(input, 0xaa), roomy([]api.Hash{blob}, api.Hash{0xaa})
	x.m.Init = roomy(with(nest(coded(stop)), says, on, deploys), 0xaa)
	x.l = roomy(list(rich, at(b, 9, roomy(coded(says, slot, on, stop), 0xaa)), at(c, 1, roomy(coded(says, slot, stop), 0xaa)), at(d, 4, nil)), at(addr(0xaa), 1, nil))
	slots := []api.Slot{{Key: n(1), Value: n(5)}, {Key: n(3), Value: n(6)}}
	for i := range x.l[1:3] {
		x.l[1+i].Slots = roomy(slots, api.Slot{Key: n(0xaa), Value: n(0xaa)})
	}
	return x
}

// text is all of it, the spare room too.
func (x *ask) text() string {
	out := fmt.Appendf(nil, "%x %x %x %x\n", x.m.Input[:cap(x.m.Input)], x.m.Init[:cap(x.m.Init)], x.m.Blobs[:cap(x.m.Blobs)], x.b.Hashes[:cap(x.b.Hashes)])
	for _, y := range x.l[:cap(x.l)] {
		out = fmt.Appendf(out, "%x %d %v %x %v\n", y.Address, y.Nonce, y.Balance, y.Code[:cap(y.Code)], y.Slots[:cap(y.Slots)])
	}
	return string(out)
}

// part is a list of an ask, and how it is written over, its spare room too; unseen: a message that makes an account (or one that does not) does not look at it.
type part struct {
	name   string
	unseen func(makes bool) bool
	spoil  func(x *ask)
}

// parts are all lists of an ask.
func parts() []part {
	seen := func(bool) bool { return false }
	called := func(makes bool) bool { return makes }
	hashes := func(l []api.Hash) {
		for i := range l[:cap(l)] {
			l[:cap(l)][i][i] ^= 0x55
		}
	}
	bytes := func(l []byte) {
		for i := range l[:cap(l)] {
			l[:cap(l)][i] ^= 0x55
		}
	}
	slots := func(l []api.Slot) {
		for i := range l[:cap(l)] {
			l[:cap(l)][i].Value = n(0x77)
		}
	}
	return []part{
		{"Hashes", seen, func(x *ask) { hashes(x.b.Hashes) }},
		{"Blobs", seen, func(x *ask) { hashes(x.m.Blobs) }},
		{"Input", seen, func(x *ask) { bytes(x.m.Input) }},
		{"Init", func(makes bool) bool { return !makes }, func(x *ask) { bytes(x.m.Init) }},
		{"the accounts", seen, func(x *ask) {
			for i := range x.l[:cap(x.l)] {
				x.l[:cap(x.l)][i] = at(addr(0x77), 77, nil)
			}
		}},
		{"a balance", seen, func(x *ask) { x.l[3].Balance = n(5) }},
		{"B's code", seen, func(x *ask) { bytes(x.l[1].Code) }},
		{"C's code", seen, func(x *ask) { bytes(x.l[2].Code) }},
		{"B's slots", called, func(x *ask) { slots(x.l[1].Slots) }},
		{"C's slots", seen, func(x *ask) { slots(x.l[2].Slots) }},
		{"all of them", seen, func(x *ask) {
			for _, y := range x.l[1:3] {
				bytes(y.Code)
				slots(y.Slots)
			}
			hashes(x.b.Hashes)
			hashes(x.m.Blobs)
			bytes(x.m.Input)
			bytes(x.m.Init)
			for i := range x.l[:cap(x.l)] {
				x.l[:cap(x.l)][i] = at(addr(0x77), 77, nil)
			}
		}},
	}
}

// asIs is what is told of a roomyAsk; each list that it looks at would be seen there.
func asIs(t testing.TB, makes bool) []api.Seen {
	t.Helper()
	want, went := roomyAsk(makes).byHand(t, api.Checked)
	for i, s := range want {
		if s.Code == 0x5b {
			t.Fatalf("step %d: %+v", i, s)
		}
	}
	if went.Status != api.Done || !slices.ContainsFunc(want, func(s api.Seen) bool { return s.Depth == 1 }) {
		t.Fatalf("%+v", went)
	}
	for _, p := range parts() {
		x := roomyAsk(makes)
		p.spoil(x)
		seq, err := trace.Follow(x.l, x.b, x.m)
		if unseen := err == nil && slices.Equal(slices.Collect(seq), want); unseen != p.unseen(makes) {
			t.Fatalf("%s: written over ahead of Follow it is seen: %v", p.name, !unseen)
		}
	}
	return want
}

// 17.3: what is told stays as it was when Follow was called, whatever list is written over behind that, ahead of the first range and between two.
func TestWrittenOverBehindFollow(t *testing.T) {
	for _, makes := range []bool{false, true} {
		want := asIs(t, makes)
		for _, p := range parts() {
			x := roomyAsk(makes)
			seq := x.followed(t)
			p.spoil(x)
			alike(t, p.name+", the first range", slices.Collect(seq), want)
			p.spoil(x)
			alike(t, p.name+", the second range", slices.Collect(seq), want)
			x = roomyAsk(makes)
			seq = x.followed(t)
			alike(t, p.name+", ahead of it", slices.Collect(seq), want)
			p.spoil(x)
			trace.Follow(x.l, x.b, x.m)
			alike(t, p.name+", behind it", slices.Collect(seq), want)
			alike(t, p.name+", left early", first(seq, 5), want[:5])
		}
	}
}

// 17.3: likewise within a range, at any step of it; and in the ranges behind it and within it.
func TestWrittenOverWithinARange(t *testing.T) {
	for _, makes := range []bool{false, true} {
		want := asIs(t, makes)
		for _, p := range parts() {
			for _, step := range []int{0, 1, len(want) / 2, len(want) - 2, len(want) - 1} {
				what := fmt.Sprintf("%s, step %d, makes %v", p.name, step, makes)
				x := roomyAsk(makes)
				seq := x.followed(t)
				var told []api.Seen
				for s := range seq {
					if told = append(told, s); len(told) == step+1 {
						p.spoil(x)
						alike(t, what+", within", slices.Collect(seq), want)
					}
				}
				alike(t, what, told, want)
				alike(t, what+", behind", slices.Collect(seq), want)
			}
		}
	}
}

// R3: what is handed in is not changed, its spare room neither, by Follow nor by a range, be the message taken or refused.
func TestHandedIn(t *testing.T) {
	for i, turn := range []func(x *ask){
		func(x *ask) {},
		func(x *ask) { x.m.Make = true },
		func(x *ask) { x.m.Still, x.m.Value = true, n(0) },
		func(x *ask) { x.m.Gas = 3000 },
		func(x *ask) { x.m.Make, x.m.Init = true, x.m.Init[:9] },
		func(x *ask) { x.l[2].Address = a },
		func(x *ask) { x.l[2].Code = x.l[2].Code[:9] },
		func(x *ask) { x.l[2].Slots[1].Value = n(0) },
	} {
		x := roomyAsk(false)
		turn(x)
		was := x.text()
		seq, err := trace.Follow(x.l, x.b, x.m)
		if x.text() != was {
			t.Errorf("%d: Follow has changed\n%s\ninto\n%s", i, was, x.text())
		}
		if (err == nil) != (i < 4) || (seq == nil) != (err != nil) {
			t.Fatalf("%d: %v, %v", i, seq != nil, err)
		}
		if err != nil {
			continue
		}
		for range seq {
			if len(first(seq, 7)) != 7 {
				t.Fatal("it has fewer steps")
			}
		}
		if x.text() != was {
			t.Errorf("%d: a range has changed\n%s\ninto\n%s", i, was, x.text())
		}
	}
}

// R3: what was handed in is let go, once Follow has answered, though the sequence is still to be ranged over.
func TestLetGo(t *testing.T) {
	type block = [1024]byte
	type hashes = [64]api.Hash
	begin := func(makes bool) (func(many int) []api.Seen, []func() bool) {
		input, start, code := new(block), new(block), new(block)
		blobs, ahead, slots, accounts := new(hashes), new(hashes), new([64]api.Slot), new([64]api.Account)
		size := copy(code[:], coded(raw("5f 50 00")))
		slots[0] = api.Slot{Key: n(1), Value: n(1)}
		accounts[0], accounts[1] = rich, at(b, 0, code[:size])
		accounts[1].Slots = slots[:1]
		m := api.Message{From: a, To: b, Gas: 5000, Make: makes, Input: input[:], Init: start[:copy(start[:], maker())], Blobs: blobs[:]}
		seq := ask{l: accounts[:2], b: api.Block{Hashes: ahead[:]}, m: m}.followed(t)
		all := []func() bool{held(input), held(start), held(code), held(blobs), held(ahead), held(slots), held(accounts)}
		return func(many int) []api.Seen { return first(seq, many) }, all
	}
	for _, makes := range []bool{false, true} {
		told, all := begin(makes)
		want := told(-1)
		if len(want) != 3 {
			t.Fatalf("%+v", want)
		}
		told(1)
		runtime.GC()
		for i, held := range all {
			if held() {
				t.Errorf("the list %d is held", i)
			}
		}
		alike(t, "behind it", told(-1), want)
	}
}

// held tells whether anything still holds what x points to.
func held[T any](x *T) func() bool {
	p := weak.Make(x)
	return func() bool { return p.Value() != nil }
}

// R3, R4: what is told hangs on what was handed in, not on the lists' spare room, nor on whether a list is nil or empty.
func TestNilAndEmpty(t *testing.T) {
	code := coded(raw("36 50 5f 49 50 43 40 50"), calls(e, 0), drop, stop)
	plain := ask{l: list(rich, at(b, 3, code)), m: from(50000)}
	empty := ask{l: roomy(list(rich, at(b, 3, code)), rich), m: from(50000), b: api.Block{Hashes: []api.Hash{}}}
	empty.m.Input, empty.m.Blobs, empty.m.Init = roomy([]byte{}, 1), roomy([]api.Hash{}, api.Hash{1}), []byte{}
	empty.l[0].Code, empty.l[0].Slots, empty.l[1].Slots = []byte{}, []api.Slot{}, roomy([]api.Slot{}, api.Slot{Key: n(1), Value: n(1)})
	want, _ := plain.byHand(t, api.Checked)
	alike(t, "nil", slices.Collect(plain.followed(t)), want)
	alike(t, "empty", slices.Collect(empty.followed(t)), want)
	making := making(maker(), 9000)
	for _, l := range [][]api.Account{nil, {}, roomy([]api.Account{}, rich)} {
		seen := slices.Collect(ask{l: l, m: making}.followed(t))
		if len(seen) != 3 || seen[0].Self != call.Made(a, n(0)) {
			t.Errorf("%+v", seen)
		}
	}
}
