package call_test

import (
	"math"
	"testing"

	"vouch/api"
	"vouch/call"
)

// nestedRun is of a world in which B calls C, which makes an account and lends from D, and its message: 2 frames above one another at most, and one that is answered without a frame.
func nestedRun(t testing.TB, engine int) *call.Run {
	t.Helper()
	w := made(t, rich, at(b, 10, coded(calls(c, 2), drop, calls(e, 1), drop, stills(d), answers)),
		at(c, 0, with(nest(maker()), makes(0, 1, 1), drop, lends(d), drop, reverts)), at(d, 0, coded(load(1), answers)))
	return begun(t, w, from(1000000), engine)
}

// seenAll is what Next tells ahead of each step, one by one.
func seenAll(t testing.TB, r *call.Run) []api.Seen {
	t.Helper()
	var all []api.Seen
	for {
		s, more := r.Next()
		if again, still := r.Next(); again != s || still != more {
			t.Fatalf("Next: %+v, then %+v", s, again)
		}
		if _, ended := r.Ended(); ended == more {
			t.Fatalf("it has ended (%v), and a step comes (%v)", ended, more)
		}
		if !more {
			if s != (api.Seen{}) {
				t.Fatalf("behind the end: %+v", s)
			}
			return all
		}
		all = append(all, s)
		if n := r.Go(1); n != 1 {
			t.Fatalf("Go(1): %d", n)
		}
	}
}

// 14.7: Go below 1 makes no step; at 1 one; with more so many, or as many as there are; behind the end none.
func TestGo(t *testing.T) {
	for _, engine := range engines {
		all := seenAll(t, nestedRun(t, engine))
		r := nestedRun(t, engine)
		for _, none := range []int{0, -1, -5, math.MinInt} {
			s, _ := r.Next()
			if n := r.Go(none); n != 0 || s != all[0] {
				t.Errorf("Go(%d): %d", none, n)
			}
		}
		for steps := range len(all) + 3 {
			r := nestedRun(t, engine)
			if n := r.Go(steps); n != min(steps, len(all)) {
				t.Errorf("Go(%d): %d", steps, n)
			}
			s, more := r.Next()
			if more != (steps < len(all)) || more && s != all[steps] {
				t.Errorf("behind Go(%d): %+v, %v", steps, s, more)
			}
			for _, none := range []int{0, -1, math.MinInt} {
				if n := r.Go(none); n != 0 {
					t.Errorf("Go(%d): %d", none, n)
				}
			}
			if again, _ := r.Next(); again != s {
				t.Errorf("behind Go below 1: %+v, not %+v", again, s)
			}
			if n := r.Go(math.MaxInt); n != max(len(all)-steps, 0) || r.Go(math.MaxInt) != 0 {
				t.Errorf("Go of the rest: %d", n)
			}
		}
	}
}

// 14.7, 14.11: Go(a), then Go(b) is Go(a and b together), in drawn pieces.
func TestGoInPieces(t *testing.T) {
	g := draw(147)
	for _, engine := range engines {
		all := seenAll(t, nestedRun(t, engine))
		whole := nestedRun(t, engine)
		whole.Go(many)
		want, _ := whole.Ended()
		for range 100 {
			r := nestedRun(t, engine)
			for sum := 0; sum < len(all); {
				if s, more := r.Next(); !more || s != all[sum] {
					t.Fatalf("behind %d steps: %+v", sum, s)
				}
				piece := g.IntN(12)
				made := r.Go(piece)
				if made != min(piece, len(all)-sum) {
					t.Fatalf("Go(%d) behind %d: %d", piece, sum, made)
				}
				sum += made
			}
			got, _ := r.Ended()
			wants(t, "in pieces", got, want)
		}
	}
}

// 14.7, 14.8: with the step that asks for a frame it begins, or is answered; with the step that ends one the one below is answered: each step of a run, in numbers.
func TestNext(t *testing.T) {
	x := call.Made(c, n(1))
	start := maker()
	hash := 6 * uint64((len(start)+31)/32)
	for _, engine := range engines {
		got := seenAll(t, nestedRun(t, engine))
		var want []api.Seen
		gas := []uint64{1000000}
		see := func(self api.Address, at, code, height int, cost uint64) {
			depth := len(gas) - 1
			want = append(want, api.Seen{Depth: depth, Self: self, At: at, Code: code, Height: height, Left: gas[depth]})
			gas[depth] -= cost
		}
		pass := func(stays uint64) {
			depth := len(gas) - 1
			stays = max(stays, gas[depth]/64)
			gas = append(gas, gas[depth]-stays)
			gas[depth] = stays
		}
		back := func(all bool) {
			depth := len(gas) - 1
			if all {
				gas[depth-1] += gas[depth]
			}
			gas = gas[:depth]
		}
		see(b, 0, 0x60, 0, 3)
		see(b, 2, 0x5f, 1, 2)
		see(b, 3, 0x5f, 2, 2)
		see(b, 4, 0x60, 3, 3)
		see(b, 6, 0xf8, 4, 100+2500+9000)
		pass(5000)
		see(c, 0, 0x5f, 0, 2)
		see(c, 1, 0x5f, 1, 2)
		see(c, 2, 0x60, 2, 3)
		see(c, 4, 0x60, 3, 3)
		see(c, 6, 0xec, 4, 32000+hash)
		pass(0)
		see(x, 0, 0x5f, 0, 2)
		see(x, 1, 0x5f, 1, 2)
		see(x, 2, 0xee, 2, 200*20)
		back(true)
		see(c, 8, 0x50, 1, 2)
		see(c, 9, 0x5f, 0, 2)
		see(c, 10, 0x5f, 1, 2)
		see(c, 11, 0x60, 2, 3)
		see(c, 13, 0xf9, 3, 2600)
		pass(5000)
		see(c, 0, 0x60, 0, 3)
		see(c, 2, 0x54, 1, 2100)
		see(c, 3, 0x5f, 1, 2)
		see(c, 4, 0x52, 2, 6)
		see(c, 5, 0x60, 0, 3)
		see(c, 7, 0x5f, 1, 2)
		see(c, 8, 0xf3, 2, 0)
		back(true)
		see(c, 14, 0x50, 1, 2)
		see(c, 15, 0x5f, 0, 2)
		see(c, 16, 0x5f, 1, 2)
		see(c, 17, 0xfd, 2, 0)
		back(true)
		see(b, 7, 0x50, 1, 2)
		see(b, 8, 0x60, 0, 3)
		see(b, 10, 0x5f, 1, 2)
		see(b, 11, 0x5f, 2, 2)
		see(b, 12, 0x60, 3, 3)
		see(b, 14, 0xf8, 4, 100+2500+9000+25000)
		see(b, 15, 0x50, 1, 2)
		see(b, 16, 0x5f, 0, 2)
		see(b, 17, 0x5f, 1, 2)
		see(b, 18, 0x60, 2, 3)
		see(b, 20, 0xfb, 3, 2600) // D is cold again: it was touched in what was taken back
		pass(5000)
		see(d, 0, 0x60, 0, 3)
		see(d, 2, 0x54, 1, 2100)
		see(d, 3, 0x5f, 1, 2)
		see(d, 4, 0x52, 2, 6)
		see(d, 5, 0x60, 0, 3)
		see(d, 7, 0x5f, 1, 2)
		see(d, 8, 0xf3, 2, 0)
		back(true)
		see(b, 21, 0x5f, 1, 2)
		see(b, 22, 0x52, 2, 6)
		see(b, 23, 0x60, 0, 3)
		see(b, 25, 0x5f, 1, 2)
		see(b, 26, 0xf3, 2, 0)
		if len(got) != len(want) {
			t.Fatalf("by %d: %d steps, not %d", engine, len(got), len(want))
		}
		for i := range want {
			if got[i] != want[i] {
				t.Errorf("by %d: step %d is %+v, not %+v", engine, i, got[i], want[i])
			}
		}
	}
}

// 14.8: Section and At of a run that goes through sections, and the byte that stands there.
func TestNextInSections(t *testing.T) {
	code := fitted([]api.Type{{In: 1, Out: 1}, {In: 0, Out: never}}, nil, nil, raw("6005 e30001 50 e50002"), raw("6002 02 e4"), raw("00"))
	for _, engine := range engines {
		r := begun(t, made(t, rich, at(b, 0, code)), from(1000), engine)
		want := []api.Seen{
			{Self: b, Code: 0x60, Left: 1000},
			{Self: b, At: 2, Code: 0xe3, Height: 1, Left: 997},
			{Self: b, Section: 1, Code: 0x60, Height: 1, Left: 992},
			{Self: b, Section: 1, At: 2, Code: 0x02, Height: 2, Left: 989},
			{Self: b, Section: 1, At: 3, Code: 0xe4, Height: 1, Left: 984},
			{Self: b, At: 5, Code: 0x50, Height: 1, Left: 981},
			{Self: b, At: 6, Code: 0xe5, Left: 979},
			{Self: b, Section: 2, Code: 0x00, Left: 974},
		}
		got := seenAll(t, r)
		if len(got) != len(want) {
			t.Fatalf("%+v", got)
		}
		for i := range want {
			if got[i] != want[i] {
				t.Errorf("step %d: %+v, not %+v", i, got[i], want[i])
			}
		}
	}
}

// 14.9: ahead of the end zero and false; behind it the Result, each Status with all its fields.
func TestEnded(t *testing.T) {
	to := call.Made(a, n(0))
	log := api.Log{Address: b, Topics: []api.Word{n(4)}}
	for _, engine := range engines {
		for _, row := range []struct {
			name string
			code []byte // B's; none: the message makes an account
			m    api.Message
			want api.Result
		}{
			{"STOP", coded(tell(4), stop), from(1000), api.Result{Status: api.Done, Left: 1000 - 757, Steps: 5, Logs: []api.Log{log}}},
			{"RETURN", coded(raw("6002 5f f3")), from(1000), api.Result{Status: api.Done, Left: 1000 - 8, Steps: 3, Output: []byte{0, 0}}},
			{"REVERT", coded(tell(4), raw("6002 5f fd")), from(1000), api.Result{Status: api.Reverted, Left: 1000 - 757 - 8, Steps: 7, Output: []byte{0, 0}}},
			{"INVALID", coded(tell(4), invalid), from(1000), api.Result{Status: api.Halted, Why: api.HaltInvalid, Steps: 5}},
			{"gas", coded(tell(4), stop), from(756), api.Result{Status: api.Halted, Why: api.HaltGas, Steps: 4}},
			{"made", nil, making(maker(), 5000), api.Result{Status: api.Done, Left: 5000 - 4004, Steps: 3, Made: to}},
			{"not made", nil, making(coded(reverts), 5000), api.Result{Status: api.Reverted, Left: 5000 - 4, Steps: 3}},
			{"made, too little gas", nil, making(maker(), 4003), api.Result{Status: api.Halted, Why: api.HaltGas, Steps: 3}},
		} {
			l := []api.Account{rich}
			if row.code != nil {
				l = append(l, at(b, 0, row.code))
			}
			r := begun(t, made(t, l...), row.m, engine)
			for range row.want.Steps {
				if x, ended := r.Ended(); ended || !alike(x, api.Result{}) {
					t.Errorf("%s: ahead of the end %+v, %v", row.name, x, ended)
				}
				r.Go(1)
			}
			for range 2 {
				x, ended := r.Ended()
				if !ended {
					t.Errorf("%s: it has not ended", row.name)
				}
				wants(t, row.name, x, row.want)
				r.Go(1)
			}
		}
	}
}

// 14.9, 14.11: Back is the refund, or a fifth of what was used, whichever is less: below it, at it and above it; Left is what is left, and that.
func TestBack(t *testing.T) {
	// clears a slot: 5 and 100, 2100, 2800 are paid, the refund is 4800; then NOPs, of 1 each
	clears := func(nops int) []byte { return join(store(1, 0), nopsOf(nops), stop) }
	for _, engine := range engines {
		for _, row := range []struct {
			name string
			code []byte
			used uint64
			back uint64
		}{
			{"a fifth", clears(0), 5005, 1001},
			{"a fifth, rounded down", clears(4), 5009, 1001},
			{"a fifth and one", clears(5), 5010, 1002},
			{"all but one", clears(18994), 23999, 4799},
			{"all", clears(18995), 24000, 4800},
			{"no more than all", clears(18999), 24004, 4800},
			{"far less than a fifth", clears(24000), 29005, 4800},
			{"set back", join(store(1, 6), store(1, 5), stop), 5006 + 106, 1022},
			{"nothing is owed", join(store(1, 6), stop), 5006, 0},
			{"cleared and set again", join(store(1, 0), store(1, 6), stop), 5005 + 106, 0},
			{"cleared, and taken back", join(store(1, 0), reverts), 5005 + 4, 0},
		} {
			l := at(b, 0, coded(row.code))
			l.Slots = []api.Slot{{Key: n(1), Value: n(5)}}
			got := through(t, made(t, rich, l), from(100000), engine)
			if got.Back != row.back || got.Left != 100000-row.used+row.back {
				t.Errorf("%s by %d: %+v, not %d back of %d", row.name, engine, got, row.back, row.used)
			}
		}
		// halted: nothing is left, nothing comes back
		l := at(b, 0, coded(store(1, 0), invalid))
		l.Slots = []api.Slot{{Key: n(1), Value: n(5)}}
		wants(t, "halted", through(t, made(t, rich, l), from(100000), engine), api.Result{Status: api.Halted, Why: api.HaltInvalid, Steps: 4})
		// a frame above that clears and is taken back owes nothing; one that stays does
		for end, back := range map[string]uint64{"00": 4800, "5f5ffd": 0} {
			l := at(c, 0, coded(store(1, 0), raw(end)))
			l.Slots = []api.Slot{{Key: n(1), Value: n(5)}}
			got := through(t, made(t, rich, l, at(b, 0, coded(nopsOf(20000), calls(c, 0), drop, stop))), from(100000), engine)
			if got.Back != back || got.Status != api.Done {
				t.Errorf("%s: %+v", end, got)
			}
		}
	}
}

// nopsOf is so many NOPs.
func nopsOf(count int) []byte {
	l := make([]byte, count)
	for i := range l {
		l[i] = 0x5b
	}
	return l
}
