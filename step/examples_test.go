package step_test

import (
	"testing"

	"vouch/api"
)

// The rows of 'Examples' that end.
func TestExamplesThatEnd(t *testing.T) {
	twelve := wordBytes(n(12))
	coded("00").ends(t, 1, 0, api.Ending{Kind: api.EndStop, Left: 10000})
	coded("6005 6007 01 5f 52 6020 5f f3").ends(t, 8, 10, api.Ending{Kind: api.EndReturn, Output: twelve, Left: 9978})
	coded("01").ends(t, 1, 0, faulted(api.FaultUnder))
	coded("0c").ends(t, 1, 0, faulted(api.FaultOpcode))
	coded("60").ends(t, 1, 0, faulted(api.FaultImm))
	coded("5f").ends(t, 2, 1, faulted(api.FaultPlace))
	coded("ee00").ends(t, 1, 0, faulted(api.FaultOpcode))
	coded("00").init().ends(t, 1, 0, faulted(api.FaultOpcode))
	coded("e0 0001 00").ends(t, 1, 0, faulted(api.FaultTarget))
	coded("e4").ends(t, 1, 0, faulted(api.FaultReturn))
	coded("d1 0000").ends(t, 1, 0, faulted(api.FaultData))
	coded("e3 0001 00").ends(t, 1, 0, faulted(api.FaultSection))
	coded("fe").ends(t, 1, 0, halted(api.HaltInvalid))
	coded("5f 5f 55 00").still().ends(t, 3, 2, halted(api.HaltStill))
	coded("5f 5f 55 00").still().gas(103).ends(t, 3, 2, halted(api.HaltGas))
	coded("5f 5f 55 00").gas(103).ends(t, 3, 2, halted(api.HaltGas))
	coded("5f 5f fd").ends(t, 3, 2, api.Ending{Kind: api.EndRevert, Left: 9996})
}

// The rows of 'Examples' with BALANCE: Self is cold.
func TestExamplesOfColdness(t *testing.T) {
	coded("30 31 00").ends(t, 3, 2, api.Ending{Kind: api.EndStop, Left: 7398})
	w := coded("30 31 00").gas(102).ends(t, 2, 1, halted(api.HaltGas))
	if !w.Warm(self) {
		t.Error("Self is cold behind a BALANCE that could not be paid")
	}
	coded("30 31 00").gas(2602).ends(t, 3, 2, api.Ending{Kind: api.EndStop})
}

// The rows of 'Examples' with EXTCALL.
func TestExamplesOfAsking(t *testing.T) {
	r, _ := coded("5f 5f 5f 30 f8 00").begun(t)
	if made := r.Go(9); made != 5 || r.State() != api.Asking {
		t.Fatalf("%d steps, state %d", made, r.State())
	}
	if x, ok := r.Asked(); !ok || !alikeAsks(x, api.Ask{Kind: api.AskCall, To: self, Gas: 2392}) {
		t.Errorf("asked %+v, %v", x, ok)
	}
	if s := r.Sight(); s.Left != 5000 {
		t.Errorf("left %d", s.Left)
	}
	for _, x := range []api.Reply{{Status: 3}, {Status: api.Went, Left: 2393}} {
		if wrong := r.Give(x); wrong != api.ErrArg {
			t.Errorf("Give(%+v): %v", x, wrong)
		}
	}
	if wrong := r.Give(api.Reply{Status: api.Went, Left: 2392}); wrong != api.OK {
		t.Error(wrong)
	}
	if made := r.Go(9); made != 1 {
		t.Errorf("%d steps", made)
	}
	if x, ok := r.Ended(); !ok || !alikeEnds(x, api.Ending{Kind: api.EndStop, Left: 7392}) {
		t.Errorf("ended %+v, %v", x, ok)
	}
	coded("6008 5f 5f 30 f8 00").gas(20000).ends(t, 6, 6, api.Ending{Kind: api.EndStop, Left: 8391})
}
