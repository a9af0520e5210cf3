package fast_test

import (
	"bytes"
	"fmt"
	"slices"
	"testing"

	"vouch/api"
	"vouch/fast"
	"vouch/valid"
	"vouch/world"
)

// tale is all that a run tells of itself till it ends, answered always alike.
func tale(r machine) string {
	var b bytes.Buffer
	for range 10000 {
		ask, asks := r.Asked()
		end, ended := r.Ended()
		fmt.Fprintf(&b, "%+v %x %v %x %v\n", r.Sight(), ask, asks, end, ended)
		switch r.State() {
		case api.Ended:
			return b.String()
		case api.Asking:
			r.Give(api.Reply{Status: api.TookBack, Output: counted(0xb0, 40), Left: ask.Gas / 2})
		}
		r.Go(1)
	}
	return b.String()
}

// roomy is the same list with other items in its spare room.
func roomy[T any](l []T, spare T) []T {
	out := append(slices.Clone(l), spare, spare, spare)
	return out[: len(l) : len(l)+3]
}

// spread is a frame of valid code that looks at all that it was handed, in two sections, with lists that have spare room.
func spread() *frame {
	look := slices.Concat(
		raw("5f 35 5f 52"), pushed(numbers(32, 0, 64)...), raw("37"), pushed(numbers(96, 0, 64)...), raw("d3 d1 0000 59 52 36 59 52 d2 59 52"),
		pushed(n(99)), raw("40 59 52"), pushed(n(1)), raw("49 59 52"),
		pushed(numbers(10, 0, 33, 0)...), raw("f8 59 52"), pushed(numbers(0, 0, 33)...), raw("3e"),
		pushed(numbers(1, 2, 3, 4)...), raw("ec00 59 52 3d 59 52 5f 5f e3 0001 5f e1 0001 5b"), dump(0))
	x := rich(look).gas(400000).subs(sized(0xfe, 7, 7))
	x.section(api.Type{}, raw("5f e1 0001 5b e4")).fit()
	x.c.Types = roomy(x.c.Types, api.Type{In: 9})
	for i := range x.c.Codes {
		x.c.Codes[i] = roomy(x.c.Codes[i], 0xfe)
	}
	for i := range x.c.Subs {
		x.c.Subs[i] = roomy(x.c.Subs[i], 0xfe)
	}
	x.c.Codes, x.c.Subs, x.c.Data = roomy(x.c.Codes, []byte{1}), roomy(x.c.Subs, []byte{2}), roomy(x.c.Data, 3)
	x.f.Input, x.f.Blobs, x.f.Block.Hashes = roomy(x.f.Input, 4), roomy(x.f.Blobs, api.Hash{5}), roomy(x.f.Block.Hashes, api.Hash{6})
	return x
}

// spoil writes over all lists of a frame.
func (x *frame) spoil() {
	for _, l := range slices.Concat(x.c.Codes, x.c.Subs, [][]byte{x.c.Data, x.f.Input}) {
		for i := range l {
			l[i] ^= 0x5a
		}
	}
	for i := range x.c.Codes {
		x.c.Codes[i] = []byte{0xfe}
		x.c.Types[i] = api.Type{Out: never, Most: 1023}
	}
	for i := range x.c.Subs {
		x.c.Subs[i] = []byte{0xfe}
	}
	for i := range x.f.Blobs {
		x.f.Blobs[i] = api.Hash{9, 9}
	}
	for i := range x.f.Block.Hashes {
		x.f.Block.Hashes[i] = api.Hash{8, 8}
	}
}

// begins are the two ways to begin a run of a frame.
func begins(t testing.TB) []func(x *frame) side {
	return []func(x *frame) side{
		func(x *frame) side { return x.fast(t) },
		func(x *frame) side { return x.bare(t) },
	}
}

// 13.4: what was handed in is not kept: it is written over behind New and behind Bare, and between steps, and the run goes as ever.
func TestNothingHandedInIsKept(t *testing.T) {
	for i, begin := range begins(t) {
		for steps := 0; steps < 60; steps += 6 {
			x := spread()
			r, clean := begin(x), begin(spread())
			r.Go(steps)
			clean.Go(steps)
			x.spoil()
			if got, want := tale(r), tale(clean); got != want {
				t.Errorf("%d: behind %d steps:\n%s\nnot\n%s", i, steps, got, want)
			}
		}
	}
}

// 13.4: an answer's Output is not kept.
func TestNoOutputIsKept(t *testing.T) {
	for _, begin := range begins(t) {
		for _, code := range [][]byte{slices.Concat(pushed(numbers(10, 0, 0, 0)...), raw("f8 50")), slices.Concat(pushed(numbers(0, 0, 0, 0)...), raw("ec00 50"))} {
			x := rich(code, pushed(numbers(0, 0, 40)...), raw("3e"), dump(0)).gas(400000)
			if code[len(code)-2] == 0 {
				x.subs(least(0xfe))
			}
			r := begin(x.fit())
			r.Go(many)
			out := roomy(counted(1, 40), 7)
			if wrong := r.Give(api.Reply{Status: api.TookBack, Output: out}); wrong != api.OK {
				t.Fatal(wrong)
			}
			if got := out[:cap(out)]; !bytes.Equal(got, append(counted(1, 40), 7, 7, 7)) {
				t.Errorf("R3: %x", got)
			}
			clear(out[:cap(out)])
			r.Go(many)
			if got, _ := r.Ended(); len(got.Output) != 64 || !bytes.Equal(got.Output[:40], counted(1, 40)) {
				t.Errorf("%+v", got)
			}
		}
	}
}

// R3: what is handed in is not changed, its spare room neither.
func TestNothingHandedInIsChanged(t *testing.T) {
	show := func(x *frame) string {
		all := slices.Clone(x.c.Codes[:cap(x.c.Codes)])
		text := fmt.Sprint(x.c.Types[:cap(x.c.Types)], x.f.Blobs[:cap(x.f.Blobs)], x.f.Block.Hashes[:cap(x.f.Block.Hashes)])
		for _, l := range slices.Concat(all, x.c.Subs[:cap(x.c.Subs)], [][]byte{x.c.Data, x.f.Input}) {
			text += fmt.Sprintf(" %x", l[:cap(l)])
		}
		return text
	}
	for _, begin := range begins(t) {
		x := spread()
		before := show(x)
		tale(begin(x))
		if after := show(x); after != before {
			t.Errorf("%s\nnot\n%s", after, before)
		}
	}
}

// overwrite writes over a list, its spare room too.
func overwrite(l []byte) {
	l = l[:cap(l)]
	for i := range l {
		l[i] = 0xee
	}
}

// 13.4, R3: what Asked answered is new memory: it is written over, and asked again.
func TestAsksAreNew(t *testing.T) {
	fill := slices.Concat(pushed(n(0), bytesWord(counted(1, 32))), raw("52"))
	for _, begin := range begins(t) {
		for _, code := range []string{"f8", "f9", "fb", "ec00"} {
			words := numbers(11, 0, 20, 0)
			x := rich().account(api.Account{Address: addr(11), Code: least(0)}).gas(400000)
			switch code {
			case "f9", "fb":
				words = words[:3]
			case "ec00":
				words = numbers(0, 0, 0, 20)
				x.subs(least(0xfe))
			}
			x.c.Codes[0] = slices.Concat(fill, pushed(words...), raw(code), dump(0))
			r := begin(x.fit())
			r.Go(many)
			for range 3 {
				asked, ok := r.Asked()
				if !ok || !bytes.Equal(asked.Input, counted(1, 20)) {
					t.Errorf("%s: %+v", code, asked)
				}
				overwrite(asked.Input)
			}
			r.Give(api.Reply{})
			r.Go(many)
			if end, _ := r.Ended(); !bytes.Equal(end.Output, counted(1, 32)) {
				t.Errorf("memory: %x", end.Output)
			}
		}
	}
}

// 13.4, R3: what Ended answered is new memory; no two lists of an answer share any.
func TestEndsAreNew(t *testing.T) {
	fill := slices.Concat(pushed(n(0), bytesWord(counted(1, 32))), raw("52"))
	for _, begin := range begins(t) {
		for _, tail := range []string{"6014 5f f3", "6014 5f fd"} {
			r := begin(of(fill, raw(tail)).fit())
			r.Go(many)
			for range 3 {
				end, _ := r.Ended()
				if !bytes.Equal(end.Output, counted(1, 20)) {
					t.Errorf("%s: %x", tail, end.Output)
				}
				overwrite(end.Output)
			}
		}
		r := begin(of(fill, raw("6014 5f ee00")).init().subs(sized(0x00, 3, 2)).fit())
		r.Go(many)
		want := append(sized(0x00, 22, 2), counted(1, 20)...)
		for range 3 {
			end, _ := r.Ended()
			if !bytes.Equal(end.Output, want) || !bytes.Equal(end.Behind, counted(1, 20)) || end.Kind != api.EndDeploy {
				t.Errorf("%x, %x", end.Output, end.Behind)
			}
			overwrite(end.Output)
			if !bytes.Equal(end.Behind, counted(1, 20)) {
				t.Error("Output and Behind share memory")
			}
			overwrite(end.Behind)
		}
	}
}

// news is a run of New over this world.
func (x *frame) news(t *testing.T, w *world.World, c *valid.Code) side {
	t.Helper()
	r, wrong := fast.New(w, c, x.f)
	if wrong != api.OK {
		t.Fatal(wrong)
	}
	return side{r, w}
}

// 13.4: two runs over one world, of one code, have nothing in common but these: what one stores the other sees; stacks, memory, gas and return data are each one's own.
func TestTwoRunsOverOneWorld(t *testing.T) {
	x := rich(pushed(n(2)), raw("5c"), pushed(n(1)), raw("01"), pushed(n(2)), raw("5d"), pushed(n(2)), raw("5c"), dump(1)).gas(5000).fit()
	w, code := x.made(t), x.judged(t)
	runs := []side{x.news(t, w, code), x.news(t, w, code)}
	again := func() side {
		r, wrong := fast.Bare(w, x.c, x.f)
		if wrong != api.OK {
			t.Fatal(wrong)
		}
		return side{r, w}
	}
	runs = append(runs, again(), again())
	for i, r := range runs { // each is put at another place
		r.Go(i)
	}
	for i, want := range []api.Sight{{Left: 5000}, {At: 33, Height: 1, Left: 4997}, {At: 34, Height: 1, Left: 4897}, {At: 67, Height: 2, Left: 4894}} {
		if got := runs[i].Sight(); got != want {
			t.Errorf("%d: %+v, not %+v", i, got, want)
		}
	}
	for i, r := range []side{runs[0], runs[1], runs[3], runs[2]} {
		r.Go(many)
		want := []uint64{1, 2, 1, 1}[i] // the last two have loaded ahead of all that was stored
		if end, _ := r.Ended(); !bytes.Equal(end.Output, wordBytes(n(want))) {
			t.Errorf("%d: %+v", i, end)
		}
	}
}

// 13.4: runs of one code over two worlds, step by step in turn, go as each alone does, and so do their worlds.
func TestTwoRunsInTurn(t *testing.T) {
	d := draw(31)
	for range 150 {
		x := d.validFrame()
		code, seed := x.judged(t), d.Uint64()
		alone := &pair{t: t, what: x, a: x.news(t, x.made(t), code), b: x.checked(t)}
		alone.whole(draw(seed), 1, 200, nil)
		p := &pair{t: t, what: x, a: x.news(t, x.made(t), code), b: x.checked(t)}
		q := &pair{t: t, what: x, a: x.news(t, x.made(t), code), b: x.bare(t)}
		first, second := draw(seed), draw(seed)
		for range 200 {
			p.answer(first)
			p.step(1)
			q.answer(second)
			q.step(1)
			if p.b.State() == api.Ended {
				break
			}
		}
		for _, other := range []*pair{p, q} {
			other.hold()
			other.holdWorlds()
			(&pair{t: t, what: x, a: other.a, b: alone.a}).holdWorlds()
			if other.a.Sight() != alone.a.Sight() {
				t.Fatalf("%v: %+v, not %+v", x, other.a.Sight(), alone.a.Sight())
			}
		}
	}
}

// R4: two runs of one frame, over worlds of one list, tell the same tale, whatever is asked between.
func TestTheSameAgain(t *testing.T) {
	t.Parallel()
	d := draw(32)
	for range 600 {
		x := d.program()
		a, b := x.bare(t), x.bare(t)
		if d.IntN(2) == 0 {
			x = d.validFrame()
			x.f.Gas = min(x.f.Gas, 200000)
			a, b = x.fast(t), x.fast(t)
		}
		first := tale(a)
		for range 3 { // what only looks changes nothing
			b.Sight()
			b.Asked()
			b.Ended()
			b.Go(0)
		}
		if second := tale(b); first != second {
			t.Fatalf("%v:\n%s\nthen\n%s", x, first, second)
		}
		if wrong := alikeWorlds(a.w, b.w, keys()); wrong != "" {
			t.Fatalf("%v: %s", x, wrong)
		}
	}
}

// R4: runs side by side, each in a goroutine of its own over a world of its own, of one code, go as one alone.
func TestSideBySide(t *testing.T) {
	x := spread()
	code := x.judged(t)
	work := func() string {
		w, _, _ := world.New(x.accounts)
		a, _ := fast.New(w, code, x.f)
		v, _, _ := world.New(x.accounts)
		b, _ := fast.Bare(v, x.c, x.f)
		return tale(a) + tale(b)
	}
	want := work()
	got := make(chan string)
	for range 8 {
		go func() { got <- work() }()
	}
	for range 8 {
		if text := <-got; text != want {
			t.Errorf("%s\nnot\n%s", text, want)
		}
	}
}
