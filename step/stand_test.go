package step_test

import (
	"math"
	"testing"

	"vouch/api"
)

// 12.2: Go makes so many steps, and no more than can be made; none, if there are none to make.
func TestGo(t *testing.T) {
	for _, steps := range []int{0, -1, -5, math.MinInt} {
		r, w := rich(raw("5f 5f 5d 00")).begun(t)
		before := seen(w)
		if made := r.Go(steps); made != 0 || r.Sight() != (api.Sight{Left: 10000}) || seen(w) != before {
			t.Errorf("Go(%d): %d, %+v", steps, made, r.Sight())
		}
	}
	for steps := 1; steps <= 5; steps++ {
		r, _ := coded("5f 5f 5b 00").begun(t)
		if made := r.Go(steps); made != min(steps, 4) {
			t.Errorf("Go(%d): %d", steps, made)
		}
	}
	r, _ := coded("5f 5f 5b 00").begun(t)
	if made := r.Go(math.MaxInt); made != 4 {
		t.Errorf("%d steps", made)
	}
	for range 3 {
		before := r.Sight()
		if made := r.Go(5); made != 0 || r.Sight() != before {
			t.Errorf("%d steps behind the end", made)
		}
	}
}

// 12.2, 12.3: a run that asks makes no step till it is answered.
func TestGoWhileAsking(t *testing.T) {
	r, w := coded("5f 5f 5f 30 f8 50 00").begun(t)
	if made := r.Go(100); made != 5 {
		t.Errorf("%d steps", made)
	}
	was, before := r.Sight(), seen(w)
	for range 3 {
		if made := r.Go(100); made != 0 || r.State() != api.Asking || r.Sight() != was || seen(w) != before {
			t.Errorf("%d steps while it asks, %+v", made, r.Sight())
		}
	}
	r.Give(api.Reply{})
	if made := r.Go(1); made != 1 || r.State() != api.Going || r.Sight().At != 6 {
		t.Errorf("%d steps, %+v", made, r.Sight())
	}
}

// stands: State, Asked, Ended, and what Give answers, are those of this state.
func stands(t *testing.T, r interface {
	State() int
	Asked() (api.Ask, bool)
	Ended() (api.Ending, bool)
	Sight() api.Sight
}, state int) {
	t.Helper()
	ask, asks := r.Asked()
	end, ended := r.Ended()
	if r.State() != state || r.Sight().State != state || asks != (state == api.Asking) || ended != (state == api.Ended) {
		t.Errorf("state %d, sight %+v, asks %v, ended %v", r.State(), r.Sight(), asks, ended)
	}
	if !asks && !alikeAsks(ask, api.Ask{}) || !ended && !alikeEnds(end, api.Ending{}) {
		t.Errorf("asks %v %+v, ended %v %+v", asks, ask, ended, end)
	}
}

// 12.3 to 12.5: what is told in each state, at every step of a run with two asks.
func TestStates(t *testing.T) {
	x := rich(pushed(numbers(10, 0, 1, 1)...), raw("f8 50"), pushed(numbers(1, 2, 0, 1)...), raw("ec00 50 00")).gas(200000)
	r, _ := x.begun(t)
	for _, kind := range []int{api.AskCall, api.AskMake} {
		for r.State() == api.Going {
			stands(t, r, api.Going)
			if wrong := r.Give(api.Reply{}); wrong != api.ErrAsked {
				t.Errorf("Give while it goes: %v", wrong)
			}
			r.Go(1)
		}
		stands(t, r, api.Asking)
		ask, _ := r.Asked()
		if ask.Kind != kind {
			t.Errorf("asks for %+v", ask)
		}
		if wrong := r.Give(api.Reply{Left: ask.Gas}); wrong != api.OK {
			t.Error(wrong)
		}
	}
	for r.State() == api.Going {
		stands(t, r, api.Going)
		r.Go(1)
	}
	stands(t, r, api.Ended)
	for _, reply := range []api.Reply{{}, {Status: 9}, {Left: 1}} {
		if wrong := r.Give(reply); wrong != api.ErrAsked {
			t.Errorf("Give behind the end: %v", wrong)
		}
	}
	stands(t, r, api.Ended)
}

// 12.4: of an Ask those fields are set that are of its kind; all others are zero.
func TestAskedFields(t *testing.T) {
	for _, x := range []struct {
		code []byte
		want api.Ask
	}{
		{append(pushed(numbers(11, 3, 2, 5)...), 0xf8), api.Ask{Kind: api.AskCall, To: addr(11), Value: n(5), Input: zero(2)}},
		{append(pushed(numbers(11, 3, 2, 5)...), 0xf9), api.Ask{Kind: api.AskDelegate, To: addr(11), Input: zero(2)}},
		{append(pushed(numbers(11, 3, 2, 5)...), 0xfb), api.Ask{Kind: api.AskStill, To: addr(11), Input: zero(2)}},
		{append(pushed(numbers(5, 4, 3, 2)...), 0xec, 0), api.Ask{Kind: api.AskMake, Value: n(5), Salt: n(4), Input: zero(2)}},
	} {
		r, _, _ := rich(x.code).account(api.Account{Address: addr(11), Code: least(0)}).gas(300000).gone(t)
		got, ok := r.Asked()
		x.want.Gas = got.Gas
		if !ok || got.Gas == 0 || !alikeAsks(got, x.want) {
			t.Errorf("%+v, %v, not %+v", got, ok, x.want)
		}
		again, ok := r.Asked()
		if !ok || !alikeAsks(again, got) {
			t.Errorf("asked again: %+v, %v", again, ok)
		}
	}
}

// 12.4: each refusal of Give, which changes nothing; at the bounds it is taken.
func TestGiveRefuses(t *testing.T) {
	for _, code := range [][]byte{append(pushed(numbers(11, 0, 0, 0)...), 0xf8, 0), append(pushed(numbers(0, 0, 0, 0)...), 0xec, 0, 0)} {
		r, w, _ := rich(code).gas(100000).gone(t)
		ask, _ := r.Asked()
		was, before := r.Sight(), seen(w)
		for _, x := range []api.Reply{
			{Status: -1}, {Status: 3}, {Status: math.MinInt}, {Status: math.MaxInt}, {Status: 3, Left: ask.Gas + 1},
			{Left: ask.Gas + 1}, {Left: math.MaxUint64}, {Status: api.Failed, Left: ask.Gas + 1}, {Status: api.TookBack, Left: was.Left + ask.Gas},
		} {
			if wrong := r.Give(x); wrong != api.ErrArg {
				t.Errorf("Give(%+v): %v", x, wrong)
			}
			now, _ := r.Asked()
			if r.Sight() != was || seen(w) != before || !alikeAsks(now, ask) {
				t.Errorf("Give(%+v) has changed %+v to %+v", x, was, r.Sight())
			}
		}
		if wrong := r.Give(api.Reply{Status: api.Failed, Left: ask.Gas}); wrong != api.OK {
			t.Error(wrong)
		}
		if wrong := r.Give(api.Reply{}); wrong != api.ErrAsked {
			t.Errorf("given twice: %v", wrong)
		}
	}
}

// 12.4: each status may be given, with any gas up to what was asked with; the world is not touched by it.
func TestGiveTakes(t *testing.T) {
	for _, code := range [][]byte{append(pushed(numbers(11, 0, 0, 1)...), 0xf8, 0), append(pushed(numbers(1, 0, 0, 0)...), 0xec, 0, 0)} {
		for status := range 3 {
			r, w, _ := rich(code).gas(100000).gone(t)
			before := seen(w)
			if wrong := r.Give(api.Reply{Status: status, Output: zero(3), Address: addr(3)}); wrong != api.OK || seen(w) != before {
				t.Errorf("status %d: %v", status, wrong)
			}
		}
	}
}

// 12.5: every kind of end, with all its fields; what it has no use for is zero.
func TestEnded(t *testing.T) {
	fill := "6105ff 5f 52" // memory: 30 bytes 0, 05, ff
	coded("5b 00").endsSo(t, api.Ending{Kind: api.EndStop, Left: 9999})
	coded(fill+"6002 601e f3").endsSo(t, api.Ending{Kind: api.EndReturn, Output: raw("05ff"), Left: 10000 - 11 - 6})
	coded(fill+"6002 601e fd").endsSo(t, api.Ending{Kind: api.EndRevert, Output: raw("05ff"), Left: 10000 - 11 - 6})
	coded(fill+"5f 5f f3").endsSo(t, api.Ending{Kind: api.EndReturn, Left: 10000 - 11 - 4})
	coded(fill+"6001 601f ee01").init().subs([]byte{1}, least(0x00)).endsSo(t, api.Ending{Kind: api.EndDeploy, Output: append(sized(0x00, 1, 0), 0xff), Sub: 1, Behind: []byte{0xff}, Left: 10000 - 11 - 6 - 4200})
	coded(fill+"fe").endsSo(t, halted(api.HaltInvalid))
	coded(fill+"0c").endsSo(t, faulted(api.FaultOpcode))
}

// 12.6: where a run stands, at every step: by its section and place, its words, its places, its bytes and its gas.
func TestSight(t *testing.T) {
	x := coded("6001 5f 52 5f e3 0001 50 5f 5f 5f 30 f8 00").section(api.Type{In: 1, Out: 1, Most: 2}, raw("5f 50 e4")).gas(20000)
	r, _ := x.begun(t)
	for i, want := range []api.Sight{
		{Left: 20000},
		{At: 2, Height: 1, Left: 19997},
		{At: 3, Height: 2, Left: 19995},
		{At: 4, Memory: 32, Left: 19989},
		{At: 5, Height: 1, Memory: 32, Left: 19987},
		{Section: 1, Height: 1, Returns: 1, Memory: 32, Left: 19982},
		{Section: 1, At: 1, Height: 2, Returns: 1, Memory: 32, Left: 19980},
		{Section: 1, At: 2, Height: 1, Returns: 1, Memory: 32, Left: 19978},
		{At: 8, Height: 1, Memory: 32, Left: 19975},
		{At: 9, Memory: 32, Left: 19973},
		{At: 10, Height: 1, Memory: 32, Left: 19971},
		{At: 11, Height: 2, Memory: 32, Left: 19969},
		{At: 12, Height: 3, Memory: 32, Left: 19967},
		{At: 13, Height: 4, Memory: 32, Left: 19965},
		{State: api.Asking, At: 13, Memory: 32, Left: 5000},
	} {
		if got := r.Sight(); got != want {
			t.Errorf("%d: %+v, not %+v", i, got, want)
		}
		r.Go(1)
	}
	r.Give(api.Reply{Left: 1000})
	if got := r.Sight(); got != (api.Sight{At: 14, Height: 1, Memory: 32, Left: 6000}) {
		t.Errorf("answered: %+v", got)
	}
	r.Go(1)
	if got := r.Sight(); got != (api.Sight{State: api.Ended, At: 14, Left: 6000}) {
		t.Errorf("ended: %+v", got)
	}
}

// 12.6: where a run has ended, in a section beside the first one too.
func TestSightOfEnds(t *testing.T) {
	for code, at := range map[string]int{"fe": 0, "5b 5b 00": 2, "5f 5f fd": 2, "5f 5f": 2, "6001 0c": 2, "e0 0009": 0, "5f 60": 1, "e3 0009": 0} {
		r, _, _ := coded("5f 5f 6001 5f 52 e3 0001").section(api.Type{}, raw(code)).gone(t)
		end, _ := r.Ended()
		if got := r.Sight(); got != (api.Sight{State: api.Ended, Section: 1, At: at, Left: end.Left}) {
			t.Errorf("%s: %+v", code, got)
		}
	}
}
