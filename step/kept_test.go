package step_test

import (
	"bytes"
	"fmt"
	"slices"
	"testing"

	"vouch/api"
	"vouch/step"
	"vouch/world"
)

// tale is all that a run tells of itself till it ends, answered always alike.
func tale(r *step.Run) string {
	var b bytes.Buffer
	for range 10000 {
		ask, asks := r.Asked()
		end, ended := r.Ended()
		fmt.Fprintf(&b, "%+v %x %v %x %v\n", r.Sight(), ask, asks, end, ended)
		switch r.State() {
		case api.Ended:
			return b.String()
		case api.Asking:
			r.Give(api.Reply{Status: api.TookBack, Output: counted(0xb0, 40), Left: ask.Gas / 2})
		}
		r.Go(1)
	}
	return b.String()
}

// roomy is the same list with other bytes in its spare room.
func roomy[T any](l []T, spare T) []T {
	out := append(slices.Clone(l), spare, spare, spare)
	return out[: len(l) : len(l)+3]
}

// spread is a frame that looks at all that it was handed, in two sections, with lists that have spare room.
func spread() *frame {
	look := slices.Concat(
		raw("5f 35 5f 52"), pushed(numbers(32, 0, 64)...), raw("37"), pushed(numbers(96, 0, 64)...), raw("d3 d1 0000 59 52 36 59 52 d2 59 52"),
		pushed(n(99)), raw("40 59 52"), pushed(n(1)), raw("49 59 52"),
		pushed(numbers(10, 0, 33, 0)...), raw("f8 59 52"), pushed(numbers(0, 0, 33)...), raw("3e"),
		pushed(numbers(1, 2, 3, 4)...), raw("ec00 59 52 3d 59 52 e3 0001 5f e1 0001 5b"), dump(0))
	x := rich(look).gas(400000)
	x.c.Codes[1], x.c.Types[1].Most = raw("5f e1 0001 5b e4"), 5
	x.c.Types = roomy(x.c.Types, api.Type{In: 9})
	for i := range x.c.Codes {
		x.c.Codes[i] = roomy(x.c.Codes[i], 0xfe)
	}
	for i := range x.c.Subs {
		x.c.Subs[i] = roomy(x.c.Subs[i], 0xfe)
	}
	x.c.Codes, x.c.Subs, x.c.Data = roomy(x.c.Codes, []byte{1}), roomy(x.c.Subs, []byte{2}), roomy(x.c.Data, 3)
	x.f.Input, x.f.Blobs, x.f.Block.Hashes = roomy(x.f.Input, 4), roomy(x.f.Blobs, api.Hash{5}), roomy(x.f.Block.Hashes, api.Hash{6})
	return x
}

// spoil writes over all lists of a frame.
func (x *frame) spoil() {
	for _, l := range slices.Concat(x.c.Codes, x.c.Subs, [][]byte{x.c.Data, x.f.Input}) {
		for i := range l {
			l[i] ^= 0x5a
		}
	}
	for i := range x.c.Codes {
		x.c.Codes[i] = []byte{0xfe}
		x.c.Types[i] = api.Type{In: 100, Out: never, Most: 1000}
	}
	for i := range x.c.Subs {
		x.c.Subs[i] = []byte{0xfe}
	}
	for i := range x.f.Blobs {
		x.f.Blobs[i] = api.Hash{9, 9}
	}
	for i := range x.f.Block.Hashes {
		x.f.Block.Hashes[i] = api.Hash{8, 8}
	}
}

// 12.8: what was handed in is not kept: it is written over behind New, and between steps, and the run goes as ever.
func TestNothingHandedInIsKept(t *testing.T) {
	clean, _ := spread().begun(t)
	want := tale(clean)
	x := spread()
	r, _ := x.begun(t)
	x.spoil()
	if got := tale(r); got != want {
		t.Errorf("%s\nnot\n%s", got, want)
	}
	for steps := 1; steps < 60; steps += 7 {
		x := spread()
		r, _ := x.begun(t)
		first, _ := spread().begun(t)
		r.Go(steps)
		first.Go(steps)
		x.spoil()
		if got, want := tale(r), tale(first); got != want {
			t.Errorf("behind %d steps:\n%s\nnot\n%s", steps, got, want)
		}
	}
}

// 12.8: an answer's Output is not kept.
func TestNoOutputIsKept(t *testing.T) {
	for _, code := range [][]byte{slices.Concat(pushed(numbers(10, 0, 0, 0)...), raw("f8")), slices.Concat(pushed(numbers(0, 0, 0, 0)...), raw("ec00"))} {
		x := rich(code, pushed(numbers(0, 0, 40)...), raw("3e"), dump(0)).gas(400000)
		r, _ := x.begun(t)
		r.Go(many)
		out := roomy(counted(1, 40), 7)
		if wrong := r.Give(api.Reply{Status: api.TookBack, Output: out}); wrong != api.OK {
			t.Fatal(wrong)
		}
		clear(out[:cap(out)])
		r.Go(many)
		if got, _ := r.Ended(); len(got.Output) != 64 || !bytes.Equal(got.Output[:40], counted(1, 40)) {
			t.Errorf("%+v", got)
		}
	}
}

// R3: what is handed in is not changed, its spare room neither.
func TestNothingHandedInIsChanged(t *testing.T) {
	show := func(x *frame) string {
		all := slices.Clone(x.c.Codes[:cap(x.c.Codes)])
		text := fmt.Sprint(x.c.Types[:cap(x.c.Types)], x.f.Blobs[:cap(x.f.Blobs)], x.f.Block.Hashes[:cap(x.f.Block.Hashes)])
		for _, l := range slices.Concat(all, x.c.Subs[:cap(x.c.Subs)], [][]byte{x.c.Data, x.f.Input}) {
			text += fmt.Sprintf(" %x", l[:cap(l)])
		}
		return text
	}
	x := spread()
	before := show(x)
	r, _ := x.begun(t)
	tale(r)
	if after := show(x); after != before {
		t.Errorf("%s\nnot\n%s", after, before)
	}
	r, _ = spread().begun(t)
	r.Go(many)
	out := roomy(counted(1, 40), 7)
	r.Give(api.Reply{Output: out})
	r.Go(many)
	if got := out[:cap(out)]; !bytes.Equal(got, append(counted(1, 40), 7, 7, 7)) {
		t.Errorf("%x", got)
	}
}

// overwrite writes over a list, its spare room too.
func overwrite(l []byte) {
	l = l[:cap(l)]
	for i := range l {
		l[i] = 0xee
	}
}

// 12.8, R3: what Asked and Ended answered is new memory: it is written over, and asked again, and no two lists of an answer share any.
func TestAnswersAreNew(t *testing.T) {
	for _, code := range [][]byte{slices.Concat(pushed(numbers(11, 0, 20, 0)...), raw("f8")), slices.Concat(pushed(numbers(11, 0, 20)...), raw("f9")), slices.Concat(pushed(numbers(11, 0, 20)...), raw("fb")), slices.Concat(pushed(numbers(0, 0, 0, 20)...), raw("ec00"))} {
		fill := slices.Concat(pushed(n(0), bytesWord(counted(1, 32))), raw("52"))
		x := rich(fill, code, dump(0)).account(api.Account{Address: addr(11), Code: least(0)}).gas(400000)
		r, _, _ := x.gone(t)
		first, _ := r.Asked()
		if !bytes.Equal(first.Input, counted(1, 20)) {
			t.Errorf("%+v", first)
		}
		overwrite(first.Input)
		second, ok := r.Asked()
		if !ok || !bytes.Equal(second.Input, counted(1, 20)) {
			t.Errorf("asked again: %+v", second)
		}
		overwrite(second.Input)
		r.Give(api.Reply{})
		r.Go(many)
		if end, _ := r.Ended(); !bytes.Equal(end.Output, counted(1, 32)) {
			t.Errorf("memory: %x", end.Output)
		}
	}
	for _, tail := range []string{"6014 5f f3", "6014 5f fd"} {
		r, _, _ := of(pushed(n(0), bytesWord(counted(1, 32))), raw("52"), raw(tail)).gone(t)
		for range 3 {
			end, _ := r.Ended()
			if !bytes.Equal(end.Output, counted(1, 20)) {
				t.Errorf("%s: %x", tail, end.Output)
			}
			overwrite(end.Output)
		}
	}
	r, _, _ := deploying(sized(0x00, 3, 2), n(0), n(20)).gone(t)
	want := append(sized(0x00, 22, 2), counted(1, 20)...)
	for range 3 {
		end, _ := r.Ended()
		if !bytes.Equal(end.Output, want) || !bytes.Equal(end.Behind, counted(1, 20)) {
			t.Errorf("%x, %x", end.Output, end.Behind)
		}
		overwrite(end.Output)
		if !bytes.Equal(end.Behind, counted(1, 20)) {
			t.Error("Output and Behind share memory")
		}
		overwrite(end.Behind)
	}
}

// 12.8: two runs over one world have nothing in common but it: what one stores the other sees; stacks, memory, gas and return data are each one's own.
func TestTwoRunsOverOneWorld(t *testing.T) {
	x := rich(pushed(numbers(2, 5)...), raw("5d 00")).gas(1000)
	y := rich(pushed(n(2)), raw("5c"), dump(1)).gas(5000)
	w := x.made(t)
	a, b := x.over(t, w), y.over(t, w)
	a.Go(2)
	b.Go(1)
	if a.Sight() != (api.Sight{At: 66, Height: 2, Left: 994}) || b.Sight() != (api.Sight{At: 33, Height: 1, Left: 4997}) {
		t.Errorf("%+v, %+v", a.Sight(), b.Sight())
	}
	a.Go(1)
	b.Go(many)
	if end, _ := b.Ended(); !bytes.Equal(end.Output, wordBytes(n(5))) {
		t.Errorf("%+v", end)
	}
	if a.State() != api.Going {
		t.Errorf("%+v", a.Sight())
	}
}

// 12.8: runs of one frame over worlds of their own, step by step in turn, go as each alone does.
func TestTwoRunsInTurn(t *testing.T) {
	d := draw(3)
	for range 300 {
		x := d.program()
		seed := d.Uint64()
		alone := x.paired(t)
		alone.whole(draw(seed), 300)
		p, q := x.paired(t), x.paired(t)
		first, second := draw(seed), draw(seed)
		for range 300 {
			advance(p, first)
			advance(q, second)
		}
		p.holdWorlds()
		q.holdWorlds()
		if p.r.Sight() != alone.r.Sight() || q.r.Sight() != alone.r.Sight() || seen(p.w) != seen(alone.w) {
			t.Fatalf("%v: %+v, %+v, not %+v", x, p.r.Sight(), q.r.Sight(), alone.r.Sight())
		}
	}
}

// advance answers it, if it asks, and makes one step, if one can be made.
func advance(p *pair, d drawing) {
	p.t.Helper()
	if p.m.state == api.Asking {
		p.give(d.reply(p.m.ask))
	}
	if p.m.state == api.Going {
		p.step()
	}
}

// R4: two runs of one frame, over worlds of one list, tell the same tale; whatever is asked between.
func TestTheSameAgain(t *testing.T) {
	d := draw(4)
	for range 1500 {
		x := d.program()
		a, w := x.begun(t)
		b, twin := x.begun(t)
		first := tale(a)
		for range 3 { // what only looks changes nothing
			b.Sight()
			b.Asked()
			b.Ended()
			b.Go(0)
		}
		if second := tale(b); first != second || seen(w) != seen(twin) {
			t.Fatalf("%v:\n%s\nthen\n%s", x, first, second)
		}
	}
}

// R4: runs side by side, each in a goroutine of its own over a world of its own, go as one alone.
func TestSideBySide(t *testing.T) {
	work := func() string {
		x := spread()
		w, _, _ := world.New(x.accounts)
		r, _ := step.New(w, x.c, x.f)
		return tale(r) + seen(w)
	}
	want := work()
	got := make(chan string)
	for range 8 {
		go func() { got <- work() }()
	}
	for range 8 {
		if text := <-got; text != want {
			t.Errorf("%s\nnot\n%s", text, want)
		}
	}
}
