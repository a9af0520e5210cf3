package trace_test

import (
	"iter"
	"slices"
	"testing"

	"vouch/api"
)

// 17.3: each range begins at the first step: behind one that was told to its end, behind one that was left early, and within one.
func TestAgain(t *testing.T) {
	for _, x := range samples() {
		seq := x.followed(t)
		want, _ := x.byHand(t, api.Checked)
		for range 3 {
			alike(t, x.name, slices.Collect(seq), want)
		}
		for _, many := range []int{1, 2, len(want) / 2, len(want)} {
			if many > 0 && many <= len(want) {
				alike(t, x.name, first(seq, many), want[:many])
				alike(t, x.name, slices.Collect(seq), want)
			}
		}
	}
}

// 17.3: within its own loop, at each step of it: all of it, some of it, and once more within that; the loop goes on as if nothing had been.
func TestWithinItsOwnLoop(t *testing.T) {
	for _, x := range samples() {
		want, _ := x.byHand(t, api.Checked)
		if len(want) > 100 {
			continue
		}
		seq := x.followed(t)
		var outer []api.Seen
		for s := range seq {
			outer = append(outer, s)
			var inner []api.Seen
			for y := range seq {
				inner = append(inner, y)
				if len(inner)%7 == 0 {
					alike(t, x.name+", third", first(seq, len(outer)), want[:len(outer)])
				}
			}
			alike(t, x.name+", second", inner, want)
			alike(t, x.name+", left", first(seq, 1+len(outer)/2), want[:1+len(outer)/2])
		}
		alike(t, x.name+", first", outer, want)
	}
}

// 17.3, R4: many ranges over one sequence, and over others, in turns as they are drawn; some are left on the way.
func TestInTurns(t *testing.T) {
	g := draw(173)
	type one struct {
		name  string
		want  []api.Seen
		next  func() (api.Seen, bool)
		stops func()
		told  int
	}
	begin := func(name string, seq iter.Seq[api.Seen], want []api.Seen) *one {
		next, stops := iter.Pull(seq)
		return &one{name: name, want: want, next: next, stops: stops}
	}
	var all []*one
	for _, x := range samples() {
		want, _ := x.byHand(t, api.Checked)
		if len(want) > 200 {
			continue
		}
		seq := x.followed(t)
		for range 3 {
			all = append(all, begin(x.name, seq, want))
		}
		all = append(all, begin(x.name, x.followed(t), want))
	}
	for len(all) > 0 {
		i := g.IntN(len(all))
		x := all[i]
		s, more := x.next()
		if more != (x.told < len(x.want)) || more && s != x.want[x.told] {
			t.Fatalf("%s: behind %d steps %+v, %v", x.name, x.told, s, more)
		}
		if x.told++; !more || g.IntN(100) == 0 {
			x.stops()
			all = slices.Delete(all, i, i+1)
		}
	}
}
