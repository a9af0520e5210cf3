package flow_test

import (
	"slices"
	"testing"

	"vouch/api"
	"vouch/flow"
)

// ways are what an instruction leads to: the one behind it, if it does not end, and its targets.
func ways(p piece) []int {
	to := p.targets()
	if !last(p.code) {
		to = append(to, p.next)
	}
	return to
}

// 7.6: what is told is the one assignment that 'Validity' describes, with Lo from 0 on, at most Hi, that at most MaxMost.
func TestAssignment(t *testing.T) {
	goes(t, 10, 8000, func(types []api.Type, section int, b []byte, told []api.Height) {
		all, _ := pieces(b)
		if len(all) != len(told) {
			t.Fatalf("% x: %v", b, told)
		}
		type span struct{ lo, hi int }
		at, ahead := map[int]span{}, map[int][]span{}
		for i, h := range told {
			if h.At != all[i].at || h.Lo < 0 || h.Lo > h.Hi || h.Hi > api.MaxMost {
				t.Fatalf("% x: %v", b, told)
			}
			at[h.At] = span{h.Lo, h.Hi}
		}
		for _, p := range all {
			takes, leaves := modelNeeds(types, section, p)
			passed := span{at[p.at].lo - takes + leaves, at[p.at].hi - takes + leaves}
			for _, to := range ways(p) {
				if to > p.at {
					ahead[to] = append(ahead[to], passed)
				} else if at[to] != passed {
					t.Fatalf("% x: from %d to %d comes %v: %v", b, p.at, to, passed, told)
				}
			}
		}
		in := types[section].In
		ahead[0] = append(ahead[0], span{in, in})
		for _, p := range all {
			hull := span{1 << 30, -1}
			for _, s := range ahead[p.at] {
				hull = span{min(hull.lo, s.lo), max(hull.hi, s.hi)}
			}
			if hull != at[p.at] {
				t.Fatalf("% x: at %d %v is due: %v", b, p.at, hull, told)
			}
		}
	})
}

// 7.7: walks by whatever way, loops among it, stay within the heights, and find the words that are taken.
func TestWalks(t *testing.T) {
	d := chance(11)
	looped := 0
	goes(t, 12, 3000, func(types []api.Type, section int, b []byte, told []api.Height) {
		all, _ := pieces(b)
		order := map[int]int{}
		for i, p := range all {
			order[p.at] = i
		}
		for range 10 {
			place, words := 0, types[section].In
			for range 60 {
				p, h := all[order[place]], told[order[place]]
				takes, leaves := modelNeeds(types, section, p)
				if words < h.Lo || words > h.Hi || words < takes {
					t.Fatalf("%v, %d, % x: at %d with %d words: %v", types, section, b, place, words, told)
				}
				words += leaves - takes
				to := ways(p)
				if len(to) == 0 {
					break
				}
				next := to[d.IntN(len(to))]
				if next <= place {
					looped++
				}
				place = next
			}
		}
	})
	if looped < 1000 {
		t.Errorf("only %d jumps back were walked", looped)
	}
}

// 7.8: each Lo and each Hi is met by a walk that only goes ahead: all of these walks, one by one.
func TestEndsAreMet(t *testing.T) {
	apart := 0
	goes(t, 13, 3000, func(types []api.Type, section int, b []byte, told []api.Height) {
		all, _ := pieces(b)
		met := map[int][]int{}
		walks := 0
		var walk func(place, words int)
		walk = func(place, words int) {
			if walks++; walks > 20000 {
				return
			}
			met[place] = append(met[place], words)
			p := all[slices.IndexFunc(all, func(p piece) bool { return p.at == place })]
			takes, leaves := modelNeeds(types, section, p)
			for _, to := range ways(p) {
				if to > place {
					walk(to, words-takes+leaves)
				}
			}
		}
		walk(0, types[section].In)
		if walks > 20000 {
			return
		}
		for _, h := range told {
			if !slices.Contains(met[h.At], h.Lo) || !slices.Contains(met[h.At], h.Hi) {
				t.Fatalf("%v, %d, % x: at %d come %v: %v", types, section, b, h.At, met[h.At], told)
			}
			if h.Lo < h.Hi {
				apart++
			}
		}
	})
	if apart < 1000 {
		t.Errorf("only %d hulls", apart)
	}
}

// 7.9: with a NOP ahead of all, all is the same one place further on, errors too.
func TestNopAhead(t *testing.T) {
	d := chance(14)
	errors := 0
	for range 20000 {
		types, section, b := drawn(d)
		told, wrong, at := flow.Heights(types, section, b)
		if wrong == api.ErrArg {
			continue
		}
		in := types[section].In
		want := heights(0, in, in)
		for _, h := range told {
			want = append(want, api.Height{At: h.At + 1, Lo: h.Lo, Hi: h.Hi})
		}
		place := 0
		if wrong != api.OK {
			errors++
			want, place = nil, at+1
		}
		got, again, where := flow.Heights(types, section, slices.Concat([]byte{0x5b}, b))
		if again != wrong || where != place || !slices.Equal(got, want) {
			t.Fatalf("%v, %d, % x: %v, %d, %d; with a NOP %v, %d, %d", types, section, b, told, wrong, at, got, again, where)
		}
	}
	if errors < 1000 {
		t.Errorf("only %d errors", errors)
	}
}

// 7.9: nothing hangs on types that b does not name, nor on the section's own Most, nor on its number.
func TestOtherTypes(t *testing.T) {
	d := chance(15)
	turned := 0
	for range 20000 {
		types, section, b := drawn(d)
		told, wrong, at := flow.Heights(types, section, b)
		if wrong == api.ErrArg {
			continue
		}
		names := map[int]bool{}
		all, _ := pieces(b)
		for _, p := range all {
			if p.code == 0xe3 || p.code == 0xe5 {
				names[p.number(0)] = true
			}
		}
		others := append(slices.Clone(types), drawnTypes(d)...)
		for i := range types {
			if names[i] {
				continue
			}
			turned++
			others[i].Most = d.IntN(1024)
			if i != section {
				others[i].In, others[i].Out = d.IntN(128), d.IntN(129)
			}
		}
		twin := len(others)
		others = append(others, api.Type{In: types[section].In, Out: types[section].Out, Most: d.IntN(1024)})
		for _, number := range []int{section, twin} {
			got, again, where := flow.Heights(others, number, b)
			if again != wrong || where != at || !slices.Equal(got, told) {
				t.Fatalf("%v, %d, % x: %v, %d, %d; with %v, %d: %v, %d, %d", types, section, b, told, wrong, at, others, number, got, again, where)
			}
		}
	}
	if turned < 1000 {
		t.Errorf("only %d types were turned", turned)
	}
}
