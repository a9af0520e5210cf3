package lean_test

import (
	"bytes"
	"fmt"
	"runtime"
	"slices"
	"sync"
	"testing"
	"weak"

	"vouch/api"
	"vouch/lean"
	"vouch/valid"
)

// roomy is a list with spare room behind it, in which marks stand.
func roomy[T any](l []T, mark T) []T {
	out := make([]T, len(l)+5)
	copy(out, l)
	for i := len(l); i < len(out); i++ {
		out[i] = mark
	}
	return out[:len(l)]
}

// roomyContainer has spare room in each of its lists.
func roomyContainer(c api.Container) api.Container {
	c.Types = roomy(c.Types, api.Type{In: 7, Out: 7, Most: 7})
	c.Codes, c.Subs, c.Data = roomy(c.Codes, raw("5b 00")), roomy(c.Subs, raw("ef")), roomy(c.Data, 0xda)
	for i, b := range c.Codes {
		c.Codes[i] = roomy(b, 0x5b)
	}
	for i, b := range c.Subs {
		c.Subs[i] = roomy(b, 0x5b)
	}
	return c
}

// text is a container with the spare room of its lists.
func text(c api.Container) string {
	out := fmt.Sprintf("%v of %d %x of %d, size %d\n", c.Types[:cap(c.Types)], len(c.Types), c.Data[:cap(c.Data)], len(c.Data), c.Size)
	for _, l := range [][][]byte{c.Codes, c.Subs} {
		for _, b := range l[:cap(l)] {
			out += fmt.Sprintf("%x of %d, ", b[:cap(b)], len(b))
		}
		out += fmt.Sprintln(len(l))
	}
	return out
}

// samples are some containers of each kind, lean and not.
func samples(g drawing, many int) (l []api.Container, of []int) {
	for i := range many {
		kind := kinds[i%2]
		c := g.container(plan{kind: kind, asks: true, uneven: 2})
		if i%5 == 0 {
			c, _ = lean.Lean(c, kind)
		}
		l, of = append(l, c), append(of, kind)
	}
	return l, of
}

// R3: the container, its lists and the rooms behind them stay as they were, whatever is answered; and what stands in a room says nothing.
func TestGivenStays(t *testing.T) {
	g := draw(7)
	l, of := samples(g, 150)
	for i, c := range l {
		want := leaned(t, c, of[i])
		is := lean.Is(c, of[i])
		r := roomyContainer(c)
		was := text(r)
		got, no := lean.Lean(r, of[i])
		if !same(got, want) || no.Code != api.OK || lean.Is(r, of[i]) != is {
			t.Fatalf("%s: with room: %s", told(c), told(got))
		}
		for kind := range 4 {
			lean.Lean(r, kind)
			lean.Is(r, kind)
		}
		if text(r) != was {
			t.Fatalf("%s: it has changed", told(c))
		}
	}
}

// writeOver writes a container's lists over, their spare room too, and what grows out of them.
func writeOver(c api.Container) {
	over := func(b []byte) {
		for i := range b[:cap(b)] {
			b[:cap(b)][i] ^= 0x55
		}
		_ = append(b, 1, 2, 3)
	}
	for _, l := range [][][]byte{c.Codes, c.Subs} {
		for i := range l[:cap(l)] {
			over(l[:cap(l)][i])
			l[:cap(l)][i] = raw("0102")
		}
		_ = append(l, raw("03"))
	}
	over(c.Data)
	for i := range c.Types[:cap(c.Types)] {
		c.Types[:cap(c.Types)][i] = api.Type{In: -1, Out: -1, Most: -1}
	}
	_ = append(c.Types, api.Type{})
}

// R3: what is answered is new memory: written over and grown it changes no other answer, nor what was handed in.
func TestAnsweredIsNew(t *testing.T) {
	g := draw(8)
	l, of := samples(g, 150)
	for i, c := range l {
		was := text(c)
		first, second := leaned(t, c, of[i]), leaned(t, c, of[i])
		want := copyOf(second)
		writeOver(first)
		if third := leaned(t, c, of[i]); !same(second, want) || !same(third, want) || text(c) != was {
			t.Fatalf("%s: it is shared", told(c))
		}
	}
}

// R3: no two lists of one answer share anything, if those that were handed in do neither.
func TestListsAreTheirOwn(t *testing.T) {
	code, sub := raw("5b 5f 50 e5 0001"), bytesOf(with(one(2, "5f 5f ee 00"), stops()))
	c := api.Container{Types: typed(1, 0, never, 1, 0, never, 4), Codes: [][]byte{code, join(code[:5], raw("02")), raw("5f 5f 5f 5f ec 00 5f 5f 5f ec 01 fe")}, Subs: [][]byte{sub, sub}, Data: sub, Size: len(sub)}
	d := leaned(t, c, api.Init)
	for i := range 6 {
		got := leaned(t, c, api.Init)
		l := [][]byte{got.Codes[0], got.Codes[1], got.Codes[2], got.Subs[0], got.Subs[1], got.Data}
		for j := range l[i][:cap(l[i])] {
			l[i][:cap(l[i])][j] ^= 0x55
		}
		_ = append(l[i], 9, 9, 9)
		for j, b := range [][]byte{d.Codes[0], d.Codes[1], d.Codes[2], d.Subs[0], d.Subs[1], d.Data} {
			if (i == j) == bytes.Equal(b, l[j]) {
				t.Errorf("list %d, %d was written over", j, i)
			}
		}
	}
}

// R3: the path of a refusal is new memory.
func TestPathIsNew(t *testing.T) {
	inner := bytesOf(with(one(4, "5f 5f 5f 5f ec 00 fe"), raw("ee")))
	c := with(one(4, "5f 5f 5f 5f ec 00 00"), inner)
	want := valid.Judge(c, api.Runtime)
	_, first := lean.Lean(c, api.Runtime)
	_, second := lean.Lean(c, api.Runtime)
	for i := range first.Path[:cap(first.Path)] {
		first.Path[:cap(first.Path)][i] = -5
	}
	if len(want.Path) != 2 || !sameNo(second, want) {
		t.Errorf("%+v, not %+v", second, want)
	}
}

// R3: nil and an empty list are the same.
func TestNilAndEmpty(t *testing.T) {
	for _, x := range []api.Container{one(0, "5b 00"), one(0, "00"), {}} {
		y := x
		y.Subs, y.Data = [][]byte{}, []byte{}
		d, no := lean.Lean(x, api.Runtime)
		f, not := lean.Lean(y, api.Runtime)
		if !same(d, f) || !sameNo(no, not) || lean.Is(x, api.Runtime) != lean.Is(y, api.Runtime) {
			t.Errorf("%s: %s, %s", told(x), told(d), told(f))
		}
	}
	refused(t, api.Container{Types: []api.Type{}, Codes: [][]byte{}}, api.Runtime, no(api.ErrCodes, 0, 0))
	refused(t, api.Container{Types: typed(0), Codes: [][]byte{nil}}, api.Runtime, no(api.ErrNone, 0, 0))
}

// R3, R4: nothing is kept from call to call: a container that is written over, in its place, is turned as it is then.
func TestNothingIsKept(t *testing.T) {
	g := draw(9)
	l, of := samples(g, 60)
	var wants []api.Container
	for i, c := range l {
		wants = append(wants, leaned(t, c, of[i]))
	}
	room := make([]byte, 1<<16)
	for range 300 {
		i := g.IntN(len(l))
		c, free := copyOf(l[i]), room
		for s, b := range c.Codes {
			c.Codes[s], free = free[:copy(free, b)], free[len(b):]
		}
		if !same(leaned(t, c, of[i]), wants[i]) {
			t.Fatalf("%s: otherwise than at first", told(c))
		}
	}
}

// R3: what was handed in is let go of: whoever has the answer alone holds none of it.
func TestLetGo(t *testing.T) {
	c := fit(times("36 50", 300), raw("fe"))
	c.Subs, c.Data, c.Size = [][]byte{stuck()}, make([]byte, 300), 300
	c.Codes[0] = slices.Concat(raw("36 36 36 36 ec 00 50"), c.Codes[0])
	c = high(c)
	code, data := weak.Make(&c.Codes[0][0]), weak.Make(&c.Data[0])
	d := leaned(t, c, api.Init)
	c = api.Container{}
	runtime.GC()
	runtime.GC()
	if code.Value() != nil || data.Value() != nil {
		t.Error("it is held")
	}
	runtime.KeepAlive(d)
}

// R4: the same again, whatever goes on beside it: the same containers in many goroutines, each beside others.
func TestBesideOthers(t *testing.T) {
	g := draw(10)
	l, of := samples(g, 80)
	var wants []api.Container
	var are []bool
	for i, c := range l {
		wants, are = append(wants, leaned(t, c, of[i])), append(are, lean.Is(c, of[i]))
	}
	var all sync.WaitGroup
	for worker := range 8 {
		all.Go(func() {
			own := draw(uint64(20 + worker))
			for range 150 {
				i := own.IntN(len(l))
				d, no := lean.Lean(l[i], of[i])
				if no.Code != api.OK || !same(d, wants[i]) || lean.Is(l[i], of[i]) != are[i] {
					t.Errorf("%s: otherwise beside others", told(l[i]))
				}
			}
		})
	}
	all.Wait()
}
