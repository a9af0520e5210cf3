package fast_test

import (
	"testing"

	"vouch/api"
	"vouch/fast"
)

// The rows of chapter 12's 'Examples' whose containers are valid.
func TestExamplesThatEnd(t *testing.T) {
	coded("00").goes(t, 1, 0, api.Ending{Kind: api.EndStop, Left: 10000})
	coded("6005 6007 01 5f 52 6020 5f f3").fit().goes(t, 8, 10, api.Ending{Kind: api.EndReturn, Output: append(zero(31), 0x0c), Left: 9978})
	coded("5f 5f fd").fit().goes(t, 3, 2, api.Ending{Kind: api.EndRevert, Left: 9996})
	coded("5f 5f 55 00").fit().still().goes(t, 3, 2, halted(api.HaltStill))
	coded("5f 5f 55 00").fit().still().gas(103).goes(t, 3, 2, halted(api.HaltGas))
	coded("5f 5f 55 00").fit().gas(103).goes(t, 3, 2, halted(api.HaltGas))
	coded("fe").goes(t, 1, 0, halted(api.HaltInvalid))
}

// Those with BALANCE: Self is cold.
func TestExamplesOfColdness(t *testing.T) {
	x := coded("30 31 00").fit()
	x.goes(t, 3, 2, api.Ending{Kind: api.EndStop, Left: 7398})
	if w := x.gas(102).goes(t, 2, 1, halted(api.HaltGas)); !w.Warm(self) {
		t.Error("Self is cold behind a BALANCE that could not be paid")
	}
	x.gas(2602).goes(t, 3, 2, api.Ending{Kind: api.EndStop})
}

// Those with EXTCALL.
func TestExamplesOfAsking(t *testing.T) {
	x := coded("5f 5f 5f 30 f8 00").fit()
	for _, r := range []side{x.fast(t), x.bare(t)} {
		if made := r.Go(9); made != 5 || r.State() != api.Asking {
			t.Fatalf("%d steps, state %d", made, r.State())
		}
		if x, ok := r.Asked(); !ok || !alikeAsks(x, api.Ask{Kind: api.AskCall, To: self, Gas: 2392}) {
			t.Errorf("asked %+v, %v", x, ok)
		}
		if s := r.Sight(); s != (api.Sight{State: api.Asking, At: 4, Left: 5000}) {
			t.Errorf("%+v", s)
		}
		for _, x := range []api.Reply{{Status: 3}, {Status: api.Went, Left: 2393}} {
			if wrong := r.Give(x); wrong != api.ErrArg {
				t.Errorf("Give(%+v): %v", x, wrong)
			}
		}
		if wrong := r.Give(api.Reply{Status: api.Went, Left: 2392}); wrong != api.OK {
			t.Error(wrong)
		}
		r.ends(t, "answered", 1, api.Place{At: 5}, api.Ending{Kind: api.EndStop, Left: 7392})
	}
	coded("6008 5f 5f 30 f8 00").fit().gas(20000).goes(t, 6, 6, api.Ending{Kind: api.EndStop, Left: 8391})
}

// The first table of chapter 13's 'Examples'.
func TestExamplesOfNew(t *testing.T) {
	x := coded("00")
	w, c := x.made(t), x.judged(t)
	for i, r := range []func() (*fast.Run, api.Errno){
		func() (*fast.Run, api.Errno) { return fast.New(nil, c, x.f) },
		func() (*fast.Run, api.Errno) { return fast.New(w, nil, x.f) },
		func() (*fast.Run, api.Errno) { return fast.New(w, c, api.Frame{Kind: api.Init}) },
		func() (*fast.Run, api.Errno) { return fast.New(w, c, api.Frame{Kind: api.Runtime, Depth: 1024}) },
		func() (*fast.Run, api.Errno) { return fast.New(w, c, api.Frame{Kind: api.Runtime, Gas: 1 << 32}) },
		func() (*fast.Run, api.Errno) {
			return fast.New(w, c, api.Frame{Kind: api.Runtime, Block: api.Block{Hashes: make([]api.Hash, 257)}})
		},
	} {
		if r, wrong := r(); r != nil || wrong != api.ErrArg {
			t.Errorf("%d: %v, %v", i, r != nil, wrong)
		}
	}
	coded("e3 0001 00").section(api.Type{}, raw("e4")).goes(t, 3, 3, api.Ending{Kind: api.EndStop, Left: 9992})
	deep := coded("e3 0001 00").section(api.Type{}, raw("e3 0001 e4"))
	round := coded("5f e5 0001").section(api.Type{In: 1, Out: never}, raw("50 5f e5 0001")).fit()
	for _, s := range []side{deep.fast(t), deep.bare(t), deep.checked(t)} {
		s.ends(t, deep, 1025, api.Place{Section: 1}, halted(api.HaltReturns))
	}
	// 7 are paid ahead of the round, and 9 in each: 9993 are 1110 rounds and 3 more, a POP; the PUSH0 can't be paid then.
	for _, s := range []side{round.fast(t), round.bare(t), round.checked(t)} {
		s.ends(t, round, 2+3*1110+2, api.Place{Section: 1, At: 1}, halted(api.HaltGas))
	}
}

// The second table of chapter 13's 'Examples': Bare.
func TestExamplesOfBare(t *testing.T) {
	stopped := func(left uint64) api.Ending { return api.Ending{Kind: api.EndStop, Left: left} }
	x := coded("01").bare(t)
	if x.Go(1); x.Sight() != (api.Sight{At: 1, Height: -1, Left: 9997}) {
		t.Errorf("%+v", x.Sight())
	}
	coded("01").bares(t, 2, api.Place{At: 1}, stopped(9997))
	coded("60").bares(t, 2, api.Place{At: 2}, stopped(9997))
	coded("0c").bares(t, 1, api.Place{}, halted(api.HaltInvalid))
	coded("fe").bares(t, 1, api.Place{}, halted(api.HaltInvalid))
	coded("00").init().bares(t, 1, api.Place{}, stopped(10000))
	coded("ee00").bares(t, 1, api.Place{}, halted(api.HaltDeploy))
	x = coded("e4").bare(t)
	for i := range 3 {
		if s := x.Sight(); s != (api.Sight{Returns: -i, Left: uint64(10000 - 3*i)}) {
			t.Errorf("%+v", s)
		}
		x.Go(1)
	}
	coded("e4").bares(t, 3334, api.Place{}, halted(api.HaltGas))
	coded("e0 8000").bares(t, 2, api.Place{At: 32771}, stopped(9998))
	coded("e3 0005 00").section(api.Type{Out: never}, raw("fe")).bares(t, 2, api.Place{Section: 1}, halted(api.HaltInvalid))
	low := coded("50 50 59 5f 52 6020 5f f3")
	x = low.bare(t)
	for i, height := range []int{0, -1, -2, -1, 0, -2, -1, 0} {
		if s := x.Sight(); s.Height != height {
			t.Errorf("behind %d steps: %+v", i, s)
		}
		x.Go(1)
	}
	low.bares(t, 8, api.Place{At: 8}, api.Ending{Kind: api.EndReturn, Output: zero(32), Left: 10000 - 2 - 2 - 2 - 2 - 6 - 3 - 2})
	coded("5f 5f 5f 5f ec07 00").gas(50000).bares(t, 6, api.Place{At: 6}, stopped(17992))
}
