package call_test

import (
	"bytes"
	"fmt"
	"testing"

	"vouch/api"
	"vouch/call"
	"vouch/valid"
	"vouch/world"
)

// busy is code of a frame that changes all there is to change; it has a nested container 0 to make an account with.
var busy = join(store(2, 7), store(3, 1), store(3, 0), tstore(1, 6), tell(4), warms(addr(99)), calls(e, 1), drop, makes(0, 1, 2), drop)

// byHand does to a world what busy does, of a frame whose Self is x.
func byHand(t testing.TB, w *world.World, x api.Address) {
	t.Helper()
	w.WarmSlot(x, n(2))
	w.WarmSlot(x, n(3))
	w.Set(x, n(2), n(7))
	w.Set(x, n(3), n(1))
	w.Set(x, n(3), n(0))
	w.Owe(19900)
	w.TSet(x, n(1), n(6))
	w.Tell(api.Log{Address: x, Topics: []api.Word{n(4)}})
	w.Warm(addr(99))
	w.Warm(e)
	w.Move(x, e, n(1))
	w.Raise(x)
	to := call.Made(x, n(2))
	w.Warm(to)
	w.Make(to)
	w.Move(x, to, n(1))
	lays(t, w, to, coded(stop))
}

// lays gives an address a code.
func lays(t testing.TB, w *world.World, to api.Address, code []byte) {
	t.Helper()
	laid, no := valid.Validate(code, api.Runtime)
	if no.Code != api.OK {
		t.Fatalf("%+v", no)
	}
	if wrong := w.Lay(to, laid); wrong != api.OK {
		t.Fatal(wrong)
	}
}

// end is how a frame of Runtime code ends.
type end struct {
	name   string
	code   []byte
	status int // as it is answered
	output []byte
	why    int
	last   uint64 // what its last step costs
}

// allEnds are all of them; where the gas is not to suffice, the code goes round for ever.
func allEnds() []end {
	return []end{
		{"STOP", stop, api.Went, nil, 0, 0},
		{"RETURN", raw("6003 5f f3"), api.Went, make([]byte, 3), 0, 3},
		{"RETURN of nothing", raw("5f 5f f3"), api.Went, nil, 0, 0},
		{"REVERT", raw("6007 5f 53 6002 5f fd"), api.TookBack, []byte{7, 0}, 0, 0},
		{"REVERT of nothing", reverts, api.TookBack, nil, 0, 0},
		{"INVALID", invalid, api.Failed, nil, api.HaltInvalid, 0},
		{"no gas", raw("e0 fffd"), api.Failed, nil, api.HaltGas, 0},
		{"no address", raw("5f 19 31 50 00"), api.Failed, nil, api.HaltAddress, 0},
	}
}

// 14.6, 14.9, W7: each end of a first frame, with what stays, and what is taken back: against a world that was turned by hand.
func TestEndsOfTheFirstFrame(t *testing.T) {
	for _, engine := range engines {
		for _, x := range allEnds() {
			l := []api.Account{rich, at(b, 10, with(nest(maker()), busy, x.code))}
			w, hand := made(t, l...), made(t, l...)
			m := valued(5, 400000)
			got := through(t, w, m, engine)
			hand.Begin(a, b, api.Address{})
			status := map[int]int{api.Went: api.Done, api.TookBack: api.Reverted, api.Failed: api.Halted}[x.status]
			if x.status == api.Went {
				hand.Move(a, b, n(5))
				byHand(t, hand, b)
			}
			if told(w) != told(hand) {
				t.Errorf("%s by %d:\n%s\n%s", x.name, engine, told(w), told(hand))
			}
			if got.Status != status || got.Why != x.why || !bytes.Equal(got.Output, x.output) || (len(got.Logs) == 1) != (x.status == api.Went) || (got.Back != 0) != (x.status == api.Went) || (got.Left != 0) != (x.status != api.Failed) || got.Made != (api.Address{}) {
				t.Errorf("%s by %d: %+v", x.name, engine, got)
			}
		}
	}
}

// above is a way to ask for a frame of C's code, out of B.
type above struct {
	name string
	code byte
	asks []byte
	self api.Address
	v    uint64
}

func aboves() []above {
	return []above{
		{"AskCall", 0xf8, calls(c, 6), c, 6},
		{"AskCall, no value", 0xf8, calls(c, 0), c, 0},
		{"AskDelegate", 0xf9, lends(c), b, 0},
	}
}

// untilAsked lets a run go till an instruction comes in its first frame.
func untilAsked(r *call.Run, code byte) api.Seen {
	for {
		s, more := r.Next()
		if !more || s.Depth == 0 && s.Code == int(code) {
			return s
		}
		r.Go(1)
	}
}

// untilBack lets a run that has just asked go till its first frame is the topmost one again; what was left to the frame above it at its beginning and at its last step.
func untilBack(r *call.Run) (s api.Seen, begins, last uint64) {
	for s, more := r.Next(); ; s, more = r.Next() {
		if !more || s.Depth == 0 {
			return s, begins, last
		}
		if s.Depth == 1 {
			if begins == 0 {
				begins = s.Left
			}
			last = s.Left
		}
		r.Go(1)
	}
}

// 14.6, W7: each end of a frame above another, asked for in each way: what is told of the world right behind it, against one that was turned by hand; and the answer, its Output and its gas.
func TestEndsOfAFrameAbove(t *testing.T) {
	for _, engine := range engines {
		for _, x := range allEnds() {
			for _, y := range aboves() {
				name := fmt.Sprintf("%s of %s by %d", x.name, y.name, engine)
				ahead := join(store(1, 9), tstore(2, 8), tell(1), warms(d))
				l := []api.Account{rich, at(b, 10, coded(ahead, y.asks, reports)), at(c, 3, with(nest(maker()), busy, x.code))}
				w, hand := made(t, l...), made(t, l...)
				r, twin := begun(t, w, valued(5, 4000000), engine), begun(t, hand, valued(5, 4000000), engine)
				left := untilAsked(r, y.code).Left
				untilAsked(twin, y.code)
				r.Go(1)
				s, begins, last := untilBack(r)
				hand.Warm(c)
				if x.status == api.Went {
					if y.v > 0 {
						hand.Move(b, c, n(y.v))
					}
					byHand(t, hand, y.self)
				}
				if told(w) != told(hand) {
					t.Errorf("%s:\n%s\n%s", name, told(w), told(hand))
				}
				left -= 2600
				if y.v > 0 {
					left -= api.Value
				}
				if begins != left-left/64 {
					t.Errorf("%s: %d have passed of %d", name, begins, left)
				}
				want := left - begins + last - x.last
				if x.status == api.Failed {
					want = left - begins
				}
				if s.Left != want {
					t.Errorf("%s: %d are left, not %d", name, s.Left, want)
				}
				r.Go(many)
				got, _ := r.Ended()
				if left, data := report(t, got); left != n(uint64(x.status)) || !bytes.Equal(data, x.output) {
					t.Errorf("%s: %v, %x", name, left, data)
				}
			}
		}
	}
}

// 14.6: the same of AskStill, whose frame changes nothing but what is warm.
func TestEndsOfAStillFrameAbove(t *testing.T) {
	for _, engine := range engines {
		for _, x := range allEnds() {
			name := fmt.Sprintf("%s by %d", x.name, engine)
			l := []api.Account{rich, at(b, 10, coded(tell(1), stills(c), reports)), at(c, 3, coded(warms(addr(99)), load(2), drop, x.code))}
			w, hand := made(t, l...), made(t, l...)
			r, twin := begun(t, w, valued(5, 900000), engine), begun(t, hand, valued(5, 900000), engine)
			untilAsked(r, 0xfb)
			untilAsked(twin, 0xfb)
			r.Go(1)
			untilBack(r)
			hand.Warm(c)
			if x.status == api.Went {
				hand.Warm(addr(99))
				hand.WarmSlot(c, n(2))
			}
			if told(w) != told(hand) {
				t.Errorf("%s:\n%s\n%s", name, told(w), told(hand))
			}
			r.Go(many)
			got, _ := r.Ended()
			if left, data := report(t, got); left != n(uint64(x.status)) || !bytes.Equal(data, x.output) || len(got.Logs) != 1 {
				t.Errorf("%s: %v, %x", name, left, data)
			}
		}
	}
}

// makeEnd is how a frame ends that makes an account.
type makeEnd struct {
	name   string
	code   []byte
	subs   [][]byte // behind the one that busy has
	laid   []byte   // the code of what is made; none: nothing is
	status int      // of the message
	output []byte
	why    int
}

func makeEnds() []makeEnd {
	data := fitted(nil, nil, []byte{1, 2, 3, 7, 0}, stop)
	short := data[:len(data)-2] // declared 5, there are 3
	whole := fitted(nil, nil, []byte{1, 2, 3}, stop)
	longer := fitted(nil, nil, []byte{1, 2, 3, 7, 0}, stop)
	return []makeEnd{
		{"RETURNCODE", raw("5f 5f ee01"), nest(coded(stop)), coded(stop), api.Done, nil, 0},
		{"RETURNCODE with data behind", raw("6007 5f 53 6002 5f ee01"), nest(short), data, api.Done, nil, 0},
		{"RETURNCODE with more than was declared", raw("6007 5f 53 6002 5f ee01"), nest(whole), longer, api.Done, nil, 0},
		{"RETURNCODE of the second one", raw("5f 35 e1 0004 5f 5f ee01 5f 5f ee02"), nest(coded(invalid), coded(stop)), coded(invalid), api.Done, nil, 0},
		{"the longest", raw("5f 5f ee01"), nest(sized(api.MaxDeploy - 20)), sized(api.MaxDeploy - 20), api.Done, nil, 0},
		{"one byte longer", raw("6001 5f ee01"), nest(sized(api.MaxDeploy - 20)), nil, api.Halted, nil, api.HaltDeploy},
		{"too few data", raw("6001 5f ee01"), nest(short), nil, api.Halted, nil, api.HaltDeploy},
		{"REVERT", raw("6007 5f 53 6002 5f fd"), nil, nil, api.Reverted, []byte{7, 0}, 0},
		{"INVALID", invalid, nil, nil, api.Halted, nil, api.HaltInvalid},
		{"no gas", raw("e0 fffd"), nil, nil, api.Halted, nil, api.HaltGas},
	}
}

// 14.6, 14.9: each end of a first frame that makes an account.
func TestEndsOfAMessageThatMakes(t *testing.T) {
	x := call.Made(a, n(1))
	for _, engine := range engines {
		for _, row := range makeEnds() {
			start := with(append(nest(maker()), row.subs...), busy, row.code)
			isValid(t, start, api.Init)
			w, hand := made(t, rich), made(t, rich)
			m := making(start, 8000000)
			m.Value, m.Salt = n(20), n(1)
			got := through(t, w, m, engine)
			hand.Begin(a, x, api.Address{})
			hand.Raise(a)
			to := api.Address{}
			if row.laid != nil {
				hand.Make(x)
				hand.Move(a, x, n(20))
				byHand(t, hand, x)
				lays(t, hand, x, row.laid)
				to = x
			}
			if told(w) != told(hand) {
				t.Errorf("%s by %d:\n%s\n%s", row.name, engine, told(w), told(hand))
			}
			if got.Status != row.status || got.Why != row.why || !bytes.Equal(got.Output, row.output) || got.Made != to || (len(got.Logs) == 1) != (row.laid != nil) || (got.Back > 0) != (row.laid != nil) {
				t.Errorf("%s by %d: %+v", row.name, engine, got)
			}
		}
	}
}

// 14.6: each end of a frame above another that makes an account.
func TestEndsOfAFrameThatMakes(t *testing.T) {
	x := call.Made(b, n(1))
	for _, engine := range engines {
		for _, row := range makeEnds() {
			start := with(append(nest(maker()), row.subs...), busy, row.code)
			if len(start) > api.MaxDeploy-100 {
				continue // no account has such a code
			}
			l := []api.Account{rich, {Address: b, Nonce: 3, Balance: n(50), Code: with(nest(start), tell(1), makes(0, 20, 1), reports)}}
			w, hand := made(t, l...), made(t, l...)
			r, twin := begun(t, w, from(8000000), engine), begun(t, hand, from(8000000), engine)
			left := untilAsked(r, 0xec).Left - 32000 - 6*uint64((len(start)+31)/32)
			untilAsked(twin, 0xec)
			r.Go(1)
			s, begins, _ := untilBack(r)
			hand.Raise(b)
			hand.Warm(x)
			want, output := api.Word{}, []byte(nil)
			switch row.status {
			case api.Done:
				hand.Make(x)
				hand.Move(b, x, n(20))
				byHand(t, hand, x)
				lays(t, hand, x, row.laid)
				want = wordOf(x)
			case api.Reverted:
				output = row.output
			}
			if told(w) != told(hand) {
				t.Errorf("%s by %d:\n%s\n%s", row.name, engine, told(w), told(hand))
			}
			if begins != left-left/64 || row.status == api.Halted && s.Left != left/64 {
				t.Errorf("%s by %d: %d passed of %d, %d are left", row.name, engine, begins, left, s.Left)
			}
			r.Go(many)
			got, _ := r.Ended()
			if word, data := report(t, got); word != want || !bytes.Equal(data, output) || got.Made != (api.Address{}) {
				t.Errorf("%s by %d: %v, %x, %+v", row.name, engine, word, data, got)
			}
		}
	}
}

// 14.6: what a frame has done that went well is taken back with the one below it; what stood ahead of that one stays.
func TestTakenBackWithTheOneBelow(t *testing.T) {
	for _, engine := range engines {
		for _, x := range []end{{name: "REVERT", code: reverts}, {name: "INVALID", code: invalid}} {
			// B asks D, which is busy itself, and has C be busy
			l := []api.Account{rich, at(b, 10, coded(store(1, 9), calls(d, 8), answers)),
				at(c, 5, with(nest(maker()), busy, stop)), at(d, 5, with(nest(maker()), busy, calls(c, 3), drop, lends(c), drop, x.code))}
			w, hand := made(t, l...), made(t, l...)
			r, twin := begun(t, w, from(4000000), engine), begun(t, hand, from(4000000), engine)
			untilAsked(r, 0xf8)
			untilAsked(twin, 0xf8)
			r.Go(1)
			atDepth(t, r, 2)
			for s, _ := r.Next(); s.Depth > 0; s, _ = r.Next() {
				r.Go(1)
			}
			hand.Warm(d)
			if told(w) != told(hand) {
				t.Errorf("%s by %d:\n%s\n%s", x.name, engine, told(w), told(hand))
			}
			r.Go(many)
			if got, _ := r.Ended(); got.Status != api.Done || len(got.Logs) != 0 || w.Get(b, n(1)) != n(9) || w.Get(d, n(2)) != n(0) {
				t.Errorf("%s by %d: %+v", x.name, engine, got)
			}
		}
	}
}

// 14.6: what was made within a message can be called in it, by its code; and again in the next one.
func TestMadeAndCalled(t *testing.T) {
	echo := coded(raw("36 5f 5f 37 36 5f f3"))
	start := with(nest(echo), deploys)
	// makes the account, and calls it with three bytes: what it takes is pushed ahead
	code := with(nest(start), raw("6009 5f 53"), pushed(n(0), n(3), n(0)), makes(0, 0, 1), raw("f8"), reports)
	for _, engine := range engines {
		w := made(t, rich, at(b, 0, code))
		got := through(t, w, from(400000), engine)
		if left, data := report(t, got); left != n(api.Went) || !bytes.Equal(data, []byte{9, 0, 0}) {
			t.Errorf("%v, %x", left, data)
		}
		m := api.Message{From: a, To: call.Made(b, n(1)), Gas: 5000, Input: []byte{4, 5}}
		if got := through(t, w, m, engine); !bytes.Equal(got.Output, m.Input) {
			t.Errorf("%+v", got)
		}
	}
}

// 14.6: an account that is being made has no code yet: a call of it moves the value, and nothing runs.
func TestCallOfWhatIsBeingMade(t *testing.T) {
	for _, engine := range engines {
		start := with(nest(coded(stop)), raw("5f 5f 5f 30 f8 6001 55"), deploys)
		w := made(t, rich)
		got := through(t, w, making(start, 100000), engine)
		if got.Status != api.Done || got.Steps != 10 || w.Get(got.Made, n(1)) != n(api.Went) {
			t.Errorf("%+v", got)
		}
	}
}
