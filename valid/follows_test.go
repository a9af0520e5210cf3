package valid_test

import (
	"slices"
	"testing"

	"vouch/api"
	"vouch/code"
	"vouch/op"
	"vouch/valid"
)

// spot is an instruction of a code, by its place, with what is known of it.
type spot struct {
	i              api.Instr
	lo, hi         int
	takes, leaves  int
	ends, calls    bool
	goesTo, behind []api.Place
}

// spots are all instructions of a code by their places.
func spots(x *valid.Code) map[api.Place]spot {
	all := map[api.Place]spot{}
	for s := range x.Sections() {
		heights := x.Heights(s)
		n := 0
		for i := range code.All(x.Section(s)) {
			row, _ := op.Of(i.Code)
			at := spot{i: i, lo: heights[n].Lo, hi: heights[n].Hi, ends: row.Ends}
			at.takes, at.leaves, _ = op.Needs(i.Code, i.Imm)
			for _, to := range leads(i) {
				at.goesTo = append(at.goesTo, api.Place{Section: s, At: to})
			}
			own, _ := x.Type(s)
			switch i.Code {
			case 0xe3, 0xe5:
				t, _ := x.Type(number(i))
				at.takes, at.leaves, at.calls = t.In, t.Out, true
				at.goesTo = []api.Place{{Section: number(i)}}
			case 0xe4:
				at.takes = own.Out
			}
			if !row.Ends {
				at.behind = []api.Place{{Section: s, At: i.Next}}
			}
			all[api.Place{Section: s, At: i.At}] = at
			n++
		}
	}
	return all
}

// 8.7: over drawn containers every instruction is reached, no Hi is above Most, no Lo below what is taken.
func TestReached(t *testing.T) {
	d := chance(30)
	for range 800 {
		kind := kinds[d.IntN(2)]
		c := drawn(d, kind, 1, false)
		x := validCode(t, c, kind)
		all := spots(x)
		reached := map[api.Place]bool{{}: true}
		work := []api.Place{{}}
		for len(work) > 0 {
			at := all[work[0]]
			work = work[1:]
			for _, to := range slices.Concat(at.goesTo, at.behind) {
				if !reached[to] {
					reached[to] = true
					work = append(work, to)
				}
			}
		}
		for place, at := range all {
			own, _ := x.Type(place.Section)
			if !reached[place] || at.hi > own.Most || at.lo < at.takes || at.lo > at.hi {
				t.Fatalf("%x: %+v at %v, reached: %v", bytesOf(c), at, place, reached[place])
			}
		}
		if len(reached) != len(all) {
			t.Fatalf("%x: %d places are reached, %d are there", bytesOf(c), len(reached), len(all))
		}
	}
}

// resting is a section that waits for the one that it has called.
type resting struct {
	place api.Place
	base  int
}

// 8.8: walks of a frame from section 0, place 0, on: each place is one where an instruction begins, the words of the section are as many as its heights say, and what is returned to is one behind a CALLF.
func TestWalks(t *testing.T) {
	d := chance(31)
	calls, backs := 0, 0
	for range 400 {
		c := drawn(d, api.Runtime, 1, false)
		x := validCode(t, c, api.Runtime)
		all := spots(x)
		behindCall := map[api.Place]bool{}
		for place, at := range all {
			if at.i.Code == 0xe3 {
				behindCall[api.Place{Section: place.Section, At: at.i.Next}] = true
			}
		}
		place, base, words := api.Place{}, 0, 0
		var rest []resting
		for range 300 {
			at, there := all[place]
			if !there || words-base < at.lo || words-base > at.hi || words > api.MaxStack {
				t.Fatalf("%x: at %v with %d words above %d: %+v", bytesOf(c), place, words, base, at)
			}
			if at.i.Code == 0xe4 {
				last := rest[len(rest)-1]
				rest = rest[:len(rest)-1]
				place, base = last.place, last.base
				backs++
				if !behindCall[place] {
					t.Fatalf("%x: back to %v", bytesOf(c), place)
				}
				continue
			}
			if at.calls {
				to, _ := x.Type(number(at.i))
				if words-to.In+to.Most > api.MaxStack || len(rest) == api.MaxReturns {
					break
				}
				if at.i.Code == 0xe3 {
					rest = append(rest, resting{at.behind[0], base})
					calls++
				}
				place, base = at.goesTo[0], words-to.In
				continue
			}
			words += at.leaves - at.takes
			ways := slices.Concat(at.goesTo, at.behind)
			if len(ways) == 0 {
				break
			}
			place = ways[d.IntN(len(ways))]
		}
	}
	if calls < 200 || backs < 100 {
		t.Errorf("only %d calls and %d returns", calls, backs)
	}
}
