package exec_test

import (
	"fmt"
	"math"
	"slices"
	"testing"

	"vouch/api"
	"vouch/exec"
)

// errand is a message over a list: B stores, calls C, which takes back or tells, and makes an account.
func errand(back bool) ([]api.Account, api.Message) {
	end := stop
	if back {
		end = reverts
	}
	asks := with(nest(maker(store(7, 7))), store(1, 0), calls(c, 2), keep(3), makes(0, 1, 5), keep(4), upwards)
	coder := at(b, 9, asks)
	coder.Slots = []api.Slot{{Key: n(1), Value: n(4)}}
	return list(rich, coder, at(c, 1, coded(store(2, 8), tell(6), end))), valued(3, 300000)
}

// rests: a Start has not ended, and tells nothing of an end.
func rests(t testing.TB, s *exec.Start) {
	t.Helper()
	if x, behind, ended := s.Ended(); ended || !alike(x, api.Result{}) || len(behind) != 0 {
		t.Fatalf("it has not ended: %+v, %v, %v", x, behind, ended)
	}
}

// ended: a Start has ended so: asked twice; no step comes, and none is made.
func ended(t testing.TB, what any, s *exec.Start, want plain) {
	t.Helper()
	for range 2 {
		x, behind, ended := s.Ended()
		if !ended {
			t.Fatalf("%v: it has not ended", what)
		}
		wants(t, what, x, want.result, behind, want.accounts)
		if next, more := s.Next(); more || next != (api.Seen{}) {
			t.Errorf("%v: behind the end %+v", what, next)
		}
		for _, steps := range []int{1, 0, -1, math.MaxInt, math.MinInt} {
			if made := s.Go(steps); made != 0 {
				t.Errorf("%v: behind the end %d steps", what, made)
			}
		}
	}
}

// pieces lets a Start go on, by so many steps each time, to its end; ahead of each the step that comes is told.
func pieces(t testing.TB, what any, s *exec.Start, want plain, steps func() int) {
	t.Helper()
	for sum := 0; ; {
		next, more := s.Next()
		if more != (sum < len(want.seen)) || more && next != want.seen[sum] {
			t.Fatalf("%v: behind %d steps %+v, %v", what, sum, next, more)
		}
		if !more {
			break
		}
		rests(t, s)
		n := steps()
		made := s.Go(n)
		if made != min(max(n, 0), len(want.seen)-sum) {
			t.Fatalf("%v: of %d steps behind %d it made %d", what, n, sum, made)
		}
		sum += made
	}
	ended(t, what, s, want)
}

// 15.3: Go by 1, by none and below none, by drawn pieces and at once: the steps are those of the layer below, one by one; W3.
func TestGoInPieces(t *testing.T) {
	g := draw(153)
	ways := map[string]func() int{
		"by 1":            func() int { return 1 },
		"by 2":            func() int { return 2 },
		"by 1 or nothing": func() int { return pick(g, 0, 1, -1, 1, math.MinInt) },
		"by drawn pieces": func() int { return g.IntN(12) - 2 },
		"at once":         func() int { return many },
		"all there are":   func() int { return math.MaxInt },
	}
	for _, engine := range engines {
		for _, back := range []bool{false, true} {
			l, m := errand(back)
			want := below(t, worldOf(t, l), api.Block{}, m, engine)
			if want.result.Status != api.Done || len(want.seen) < 30 || same(want.accounts, l) {
				t.Fatalf("%+v", want.result)
			}
			for name, steps := range ways {
				pieces(t, name, begun(t, l, api.Block{}, m, engine), want, steps)
			}
			pieces(t, "just so many", begun(t, l, api.Block{}, m, engine), want, func() int { return len(want.seen) })
		}
	}
}

// 15.3: Next changes nothing, nor does Ended, as often as they are asked; nor Go by none.
func TestToLookChangesNothing(t *testing.T) {
	for _, engine := range engines {
		l, m := errand(false)
		want := below(t, worldOf(t, l), api.Block{}, m, engine)
		s := begun(t, l, api.Block{}, m, engine)
		for _, seen := range want.seen {
			for range 3 {
				if next, more := s.Next(); !more || next != seen {
					t.Fatalf("%+v, not %+v", next, seen)
				}
				rests(t, s)
				if s.Go(0) != 0 || s.Go(-5) != 0 {
					t.Fatal("steps were made")
				}
			}
			if s.Go(1) != 1 {
				t.Fatal("no step was made")
			}
		}
		ended(t, "looked at", s, want)
	}
}

// 15.3, in numbers: what Next tells of a run through three depths, and what Ended tells of it.
func TestNext(t *testing.T) {
	for _, engine := range engines {
		l := list(rich, at(b, 0, coded(calls(c, 0), drop, stop)), at(c, 0, coded(raw("5b 00"))))
		s := begun(t, l, api.Block{}, from(20000), engine)
		for i, want := range []api.Seen{
			{Self: b, At: 0, Code: 0x5f, Left: 20000},
			{Self: b, At: 1, Code: 0x5f, Height: 1, Left: 19998},
			{Self: b, At: 2, Code: 0x5f, Height: 2, Left: 19996},
			{Self: b, At: 3, Code: 0x60, Height: 3, Left: 19994},
			{Self: b, At: 5, Code: 0xf8, Height: 4, Left: 19991},
			{Depth: 1, Self: c, At: 0, Code: 0x5b, Left: 12391},
			{Depth: 1, Self: c, At: 1, Code: 0x00, Left: 12390},
			{Self: b, At: 6, Code: 0x50, Height: 1, Left: 17390},
			{Self: b, At: 7, Code: 0x00, Left: 17388},
		} {
			if next, more := s.Next(); !more || next != want || s.Go(1) != 1 {
				t.Errorf("step %d: %+v, %v", i, next, more)
			}
		}
		ended(t, "the end", s, plain{result: api.Result{Status: api.Done, Left: 17388, Steps: 9}, accounts: l})
	}
}

// 15.3: a message without a step has ended when it has begun.
func TestWithoutAStep(t *testing.T) {
	for _, engine := range engines {
		s := begun(t, list(rich), api.Block{}, valued(30, 5), engine)
		ended(t, "a value", s, plain{result: api.Result{Status: api.Done, Left: 5}, accounts: list(at(a, 70, nil), at(b, 30, nil))})
	}
}

// 15.3, R4: a Start is over a world of its own: several of one list, in turns, with other messages and engines: each goes as alone, and the list stays as it was.
func TestStartsInTurns(t *testing.T) {
	l, m := errand(false)
	was := copyOf(l)
	taken, _ := errand(true)
	type one struct {
		s    *exec.Start
		want plain
		made int
	}
	var all []one
	for i, x := range []struct {
		l []api.Account
		m api.Message
	}{{l, m}, {l, m}, {taken, m}, {l, api.Message{From: a, To: c, Value: n(100), Gas: 300000}}, {l, making(maker(store(1, 1)), 300000)}, {l, from(4000)}, {l, m}} {
		for _, engine := range engines {
			want := below(t, worldOf(t, x.l), api.Block{}, x.m, engine)
			all = append(all, one{s: begun(t, x.l, api.Block{}, x.m, engine), want: want})
			if !same(l, was) {
				t.Fatalf("message %d: the list has changed", i)
			}
		}
	}
	g := draw(1531)
	for going := len(all); going > 0; {
		i := g.IntN(len(all))
		x := &all[i]
		if x.made == len(x.want.seen) {
			continue
		}
		if next, more := x.s.Next(); !more || next != x.want.seen[x.made] {
			t.Fatalf("%d: behind %d steps %+v, %v", i, x.made, next, more)
		}
		if x.made += x.s.Go(1 + g.IntN(4)); x.made == len(x.want.seen) {
			going--
			ended(t, i, x.s, x.want)
		}
	}
	for i, x := range all {
		ended(t, fmt.Sprint(i, " behind all of them"), x.s, x.want)
	}
	if !same(l, was) {
		t.Error("the list has changed")
	}
}

// 15.3: what Begin has begun goes on without the list, the block and the message: they may be written over, and used for others.
func TestWrittenOverBehindBegin(t *testing.T) {
	for _, engine := range engines {
		for _, behind := range []int{0, 1, 7, 30} {
			x := roomyAsk(engine)
			want := below(t, worldOf(t, x.l), x.b, x.m, engine)
			if want.result.Status != api.Done || len(want.result.Logs) != 2 {
				t.Fatalf("%+v", want.result)
			}
			s := begun(t, x.l, x.b, x.m, engine)
			s.Go(behind)
			x.spoil()
			exec.Execute(x.l, x.b, x.m, engine)
			s.Go(many)
			ended(t, fmt.Sprint("behind ", behind), s, want)
		}
	}
}

// 15.3: the accounts behind a run that has ended stay, whatever other runs are made of them.
func TestTheEndStays(t *testing.T) {
	for _, engine := range engines {
		l, m := errand(false)
		want := below(t, worldOf(t, l), api.Block{}, m, engine)
		s := begun(t, l, api.Block{}, m, engine)
		s.Go(many)
		_, behind, _ := s.Ended()
		next := slices.Clone(behind)
		for range 3 {
			_, next = executed(t, next, api.Block{}, api.Message{From: a, To: c, Value: n(1), Gas: 100000}, engine)
		}
		if same(next, want.accounts) {
			t.Fatal("nothing happened")
		}
		ended(t, "behind other messages", s, want)
	}
}
