package world_test

import (
	"math"
	"slices"
	"testing"

	"vouch/api"
)

// stage makes five marks, and between them changes of every kind.
func stage(x asked) {
	a, k := addresses(), keys()
	c := codes()
	x.Warm(a[0])
	x.Owe(3)
	x.Tell(api.Log{Address: a[0]})
	x.Mark()
	x.Move(a[0], a[3], n(5))
	x.Set(a[1], k[0], n(0))
	x.Set(a[1], k[2], n(4))
	x.TSet(a[1], k[0], n(7))
	x.WarmSlot(a[1], k[0])
	x.Mark()
	x.Mark()
	x.Make(a[4])
	x.Lay(a[4], c[2])
	x.Set(a[4], k[5], n(6))
	x.Tell(api.Log{Address: a[4], Topics: []api.Word{n(1), n(2)}, Data: []byte{3}})
	x.Warm(a[4])
	x.Owe(5)
	x.Mark()
	x.Take(a[3], n(2))
	x.Put(a[0], n(9))
	x.Raise(a[1])
	x.TSet(a[1], k[0], n(0))
	x.Set(a[1], k[2], n(0))
	x.Mark()
	x.Move(a[0], a[1], n(9))
	x.Tell(api.Log{Address: a[1], Data: []byte{9}})
	x.Owe(-8)
	x.Set(a[4], k[5], n(8))
	x.WarmSlot(a[4], k[5])
}

// 11.12: Mark answers how many marks there were ahead of it, and changes nothing else.
func TestMark(t *testing.T) {
	w, m := both(t, wide()...)
	for i := range 3000 {
		if got := w.Mark(); got != i {
			t.Fatalf("mark %d, not %d", got, i)
		}
	}
	hold(t, "many marks", w, m)
	wantErrno(t, "Forget(1500)", w.Forget(1500), api.OK)
	if got := w.Mark(); got != 1500 {
		t.Errorf("mark %d, not 1500", got)
	}
	wantErrno(t, "Back(700)", w.Back(700), api.OK)
	if got := w.Mark(); got != 700 {
		t.Errorf("mark %d, not 700", got)
	}
}

// 11.12, R2: what is no mark is refused, and nothing changes.
func TestNoMark(t *testing.T) {
	w, m := both(t, wide()...)
	for marks := range 6 {
		for _, no := range []int{-1, -2, marks, marks + 1, marks + 100, math.MinInt, math.MaxInt, math.MinInt32, math.MaxInt32, 1 << 32, -1 << 32} {
			wantErrno(t, "Back of no mark", w.Back(no), api.ErrMark)
			wantErrno(t, "Forget of no mark", w.Forget(no), api.ErrMark)
		}
		hold(t, "refused marks", w, m)
		w.Set(full(1), n(1), n(uint64(marks)))
		m.Set(full(1), n(1), n(uint64(marks)))
		w.Mark()
		m.Mark()
	}
}

// 11.12: Back to each mark; m and all marks behind it are none any more, those ahead of it are.
func TestBack(t *testing.T) {
	for mark := range 5 {
		w, m := both(t, wide()...)
		stage(w)
		stage(m)
		hold(t, "stage", w, m)
		wantErrno(t, "Back", w.Back(mark), api.OK)
		m.Back(mark)
		hold(t, "Back", w, m)
		for no := mark; no < 7; no++ {
			wantErrno(t, "Back of a mark that was", w.Back(no), api.ErrMark)
			wantErrno(t, "Forget of a mark that was", w.Forget(no), api.ErrMark)
		}
		if got, want := warmth(w), warmth(m); got != want {
			t.Errorf("behind Back(%d) warm: %s, not %s", mark, got, want)
		}
		for ahead := mark - 1; ahead >= 0; ahead-- {
			wantErrno(t, "Back to a mark ahead", w.Back(ahead), api.OK)
			m.Back(ahead)
			hold(t, "Back to a mark ahead", w, m)
		}
	}
}

// 11.12: Forget of each mark changes nothing; Back to each mark ahead of it leads to how it stood there.
func TestForget(t *testing.T) {
	for mark := range 5 {
		for ahead := range mark {
			w, m := both(t, wide()...)
			stage(w)
			stage(m)
			wantErrno(t, "Forget", w.Forget(mark), api.OK)
			m.Forget(mark)
			hold(t, "Forget", w, m)
			for no := mark; no < 7; no++ {
				wantErrno(t, "Back of a mark that is forgotten", w.Back(no), api.ErrMark)
				wantErrno(t, "Forget of a mark that is forgotten", w.Forget(no), api.ErrMark)
			}
			wantErrno(t, "Back to a mark ahead", w.Back(ahead), api.OK)
			m.Back(ahead)
			hold(t, "Back to a mark ahead", w, m)
			if got, want := warmth(w), warmth(m); got != want {
				t.Errorf("behind Forget(%d), Back(%d) warm: %s, not %s", mark, ahead, got, want)
			}
		}
	}
}

// 11.12: each kind of change alone goes back, and stays behind Forget.
func TestEachKindGoesBack(t *testing.T) {
	a, b, k := addresses()[0], addresses()[1], keys()[1]
	kinds := map[string]func(x asked){
		"Move":     func(x asked) { x.Move(a, b, n(2)) },
		"Take":     func(x asked) { x.Take(a, n(5)) },
		"Put":      func(x asked) { x.Put(b, n(5)) },
		"Raise":    func(x asked) { x.Raise(b) },
		"Make":     func(x asked) { x.Make(addresses()[3]) },
		"Lay":      func(x asked) { x.Lay(a, codes()[1]) },
		"Set":      func(x asked) { x.Set(b, k, n(77)) },
		"Set 0":    func(x asked) { x.Set(b, k, n(0)) },
		"Set new":  func(x asked) { x.Set(a, k, n(3)) },
		"TSet":     func(x asked) { x.TSet(b, k, n(4)) },
		"TSet 0":   func(x asked) { x.TSet(b, n(0), n(0)) },
		"Warm":     func(x asked) { x.Warm(b) },
		"WarmSlot": func(x asked) { x.WarmSlot(b, k) },
		"Tell":     func(x asked) { x.Tell(api.Log{Address: b, Topics: []api.Word{n(3)}}) },
		"Owe":      func(x asked) { x.Owe(1) },
		"Owe less": func(x asked) { x.Owe(-1) },
	}
	for name, change := range kinds {
		w := made(t, wide()...)
		w.TSet(b, n(0), n(1))
		w.Tell(api.Log{Address: a})
		w.Owe(1)
		before := told(w) + warmth(w)
		w.Mark()
		change(w)
		after := told(w) + warmth(w)
		if after == before {
			t.Errorf("%s changes nothing", name)
		}
		w.Mark()
		wantErrno(t, name+" kept", w.Forget(1), api.OK)
		if got := told(w) + warmth(w); got != after {
			t.Errorf("%s: behind Forget\n%s\nnot\n%s", name, got, after)
		}
		wantErrno(t, name+" taken back", w.Back(0), api.OK)
		if got := told(w) + warmth(w); got != before {
			t.Errorf("%s: behind Back\n%s\nnot\n%s", name, got, before)
		}
	}
}

// 11.4 to 11.12: drawn rows of calls, marks within marks, Begin among them: every answer, and all that is told behind each call.
func TestDrawnCalls(t *testing.T) {
	for run := range uint64(40) {
		d := draw(run)
		list := wide()
		if run%4 == 0 {
			list = nil
		}
		w, m := both(t, list...)
		for _, c := range drawRow(d, 250, upTo(5), 40) {
			got, want := c.make(w), c.make(m)
			if got != want {
				t.Fatalf("run %d: %s: %v, not %v", run, c.name, got, want)
			}
			hold(t, c.name, w, m)
			if run%2 == 0 {
				if got, want := warmth(w), warmth(m); got != want {
					t.Fatalf("run %d: behind %s warm: %s, not %s", run, c.name, got, want)
				}
			}
		}
	}
}

// 11.14, W13: behind Back every call, and every later row of calls, answers as if nothing had been done since the Mark.
func TestBehindBack(t *testing.T) {
	for run := range uint64(150) {
		d := draw(1000 + run)
		w, plain := made(t, wide()...), made(t, wide()...)
		ahead := drawRow(d, 30, upTo(3), 15)
		answersOf(w, ahead)
		answersOf(plain, ahead)
		mark := w.Mark()
		before := told(w)
		answersOf(w, drawRow(d, d.IntN(60), span{mark + 1, mark + 6}, 0))
		wantErrno(t, "Back", w.Back(mark), api.OK)
		if got := told(w); got != before {
			t.Fatalf("run %d: behind Back\n%s\nnot\n%s", run, got, before)
		}
		behind := drawRow(d, 30, upTo(4), 20)
		if got, want := answersOf(w, behind), answersOf(plain, behind); !slices.Equal(got, want) {
			t.Fatalf("run %d: behind Back a row answers %v, not %v", run, got, want)
		}
		hold(t, "a row behind Back", w, plain)
	}
}

// 11.12: a mark that is forgotten, and all marks behind it, are as if they had never been set.
func TestBehindForget(t *testing.T) {
	for run := range uint64(150) {
		d := draw(2000 + run)
		w, plain := made(t, wide()...), made(t, wide()...)
		ahead := drawRow(d, 30, upTo(3), 15)
		answersOf(w, ahead)
		answersOf(plain, ahead)
		mark := w.Mark()
		for range d.IntN(40) {
			c := drawCall(d, span{-5, -1})
			if c.name == "Mark()" {
				w.Mark()
				continue
			}
			if got, want := c.make(w), c.make(plain); got != want {
				t.Fatalf("run %d: %s: %v, not %v", run, c.name, got, want)
			}
		}
		wantErrno(t, "Forget", w.Forget(mark), api.OK)
		behind := drawRow(d, 30, upTo(4), 20)
		if got, want := answersOf(w, behind), answersOf(plain, behind); !slices.Equal(got, want) {
			t.Fatalf("run %d: behind Forget a row answers %v, not %v", run, got, want)
		}
		hold(t, "a row behind Forget", w, plain)
	}
}
