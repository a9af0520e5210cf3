package step_test

import (
	"fmt"
	"slices"
	"testing"

	"vouch/api"
	"vouch/world"
)

// late is an instruction that ends the frame so: with these words, with so much gas for it, in a rich frame turned so.
type late struct {
	code  string
	takes []api.Word
	gas   uint64
	want  api.Ending
	turn  func(x *frame)
}

// framed is the frame of it.
func (l late) framed() *frame {
	x := rich(pushed(l.takes...), raw(l.code), []byte{0x00})
	if l.code[:2] == "ee" {
		x.init()
	}
	if l.turn != nil {
		l.turn(x)
	}
	return x.gas(uint64(3*len(l.takes)) + l.gas)
}

func (l late) String() string { return fmt.Sprintf("%s of %x with %d", l.code, l.takes, l.gas) }

// holds: it ends so, and what the world tells is what it would tell if these alone had been done to it.
func (l late) holds(t *testing.T, done func(w *world.World)) {
	t.Helper()
	x := l.framed()
	got := x.ends(t, len(l.takes)+1, 33*len(l.takes), l.want)
	want := x.made(t)
	if done != nil {
		done(want)
	}
	if got, want := seen(got), seen(want); got != want {
		t.Errorf("%v:\n%s\nnot\n%s", l, got, want)
	}
}

func turnStill(x *frame)  { x.still() }
func turnFull(x *frame)   { x.c.Types[1].Most = 1023 }
func turnTaking(x *frame) { x.c.Types[1].In = 1 }

// Point 1 of a step is ahead of the gas; what the checked machine looks at besides is behind it.
func TestLooksAndGas(t *testing.T) {
	faults := []late{
		{"0c", nil, 0, faulted(api.FaultOpcode), nil},
		{"ee00", nil, 0, faulted(api.FaultOpcode), func(x *frame) { x.f.Kind = api.Runtime }},
		{"00", nil, 0, faulted(api.FaultOpcode), func(x *frame) { x.init() }},
		{"f3", nil, 0, faulted(api.FaultOpcode), func(x *frame) { x.init() }},
		{"7f", nil, 0, faulted(api.FaultImm), nil},
		{"01", nil, 0, faulted(api.FaultUnder), nil},
		{"e0 0009", nil, 2, faulted(api.FaultTarget), nil},
		{"e1 0009", numbers(1), 4, faulted(api.FaultTarget), nil},
		{"e2 00 0009", numbers(0), 4, faulted(api.FaultTarget), nil},
		{"e3 0003", nil, 5, faulted(api.FaultSection), nil},
		{"e3 0002", nil, 5, faulted(api.FaultSection), nil},
		{"e3 0001", nil, 5, faulted(api.FaultUnder), turnTaking},
		{"e5 0003", nil, 5, faulted(api.FaultSection), nil},
		{"e5 0001", nil, 5, faulted(api.FaultUnder), turnTaking},
		{"e4", nil, 3, faulted(api.FaultReturn), nil},
		{"d1 0009", nil, 3, faulted(api.FaultData), nil},
		{"ec02", numbers(0, 0, 0, 0), 32000, faulted(api.FaultSub), nil},
		{"ee02", numbers(0, 0), 0, faulted(api.FaultSub), nil},
	}
	for _, l := range faults {
		l.holds(t, nil)
		if l.gas > 0 {
			l.gas, l.want = l.gas-1, halted(api.HaltGas)
			l.holds(t, nil)
		}
	}
}

// Of two things that end a frame at one instruction the one that is named first does.
func TestTheFirstEndIsTold(t *testing.T) {
	far, no := n(api.MaxMemory+1), power(160)
	for _, l := range []late{
		{"ee", nil, 9, faulted(api.FaultOpcode), func(x *frame) { x.f.Kind = api.Runtime; x.c.Codes[0] = raw("ee") }},
		{"55", numbers(0, 0), 99, halted(api.HaltGas), turnStill},
		{"55", numbers(0, 0), 100, halted(api.HaltStill), turnStill},
		{"55", numbers(0, 0), 9000, halted(api.HaltStill), turnStill},
		{"5d", numbers(0, 0), 99, halted(api.HaltGas), turnStill},
		{"5d", numbers(0, 0), 100, halted(api.HaltStill), turnStill},
		{"a0", []api.Word{n(0), far}, 374, halted(api.HaltGas), turnStill},
		{"a0", []api.Word{n(0), far}, 375, halted(api.HaltStill), turnStill},
		{"a4", numbers(0, 0, 1, 2, 3, 4), 1874, halted(api.HaltGas), turnStill},
		{"a4", numbers(0, 0, 1, 2, 3, 4), 1875, halted(api.HaltStill), turnStill},
		{"f8", []api.Word{no, n(0), far, n(1)}, 100, halted(api.HaltStill), turnStill},
		{"f8", []api.Word{no, n(0), far, n(1)}, 99, halted(api.HaltGas), turnStill},
		{"f8", []api.Word{no, n(0), far, n(1)}, 100, halted(api.HaltAddress), nil},
		{"f8", []api.Word{no, n(0), far, n(0)}, 100, halted(api.HaltAddress), turnStill},
		{"f9", []api.Word{no, n(0), far}, 100, halted(api.HaltAddress), turnStill},
		{"fb", []api.Word{no, n(0), far}, 100, halted(api.HaltAddress), turnStill},
		{"31", []api.Word{no}, 99, halted(api.HaltGas), nil},
		{"31", []api.Word{no}, 100, halted(api.HaltAddress), nil},
		{"ec02", []api.Word{n(0), n(0), n(0), far}, 31999, halted(api.HaltGas), turnStill},
		{"ec02", []api.Word{n(0), n(0), n(0), far}, 32000, halted(api.HaltStill), turnStill},
		{"ec02", []api.Word{n(0), n(0), n(0), far}, 32000, faulted(api.FaultSub), nil},
		{"ee02", []api.Word{n(0), far}, 9000, faulted(api.FaultSub), nil},
		{"ee01", []api.Word{n(0), far}, 9000, halted(api.HaltGas), nil},
		{"ee01", []api.Word{n(0), n(0)}, 0, halted(api.HaltDeploy), nil},
		{"ee01", []api.Word{n(64), n(0)}, 0, halted(api.HaltDeploy), nil},
		{"ee01", []api.Word{n(0), n(1)}, 2, halted(api.HaltGas), nil},
		{"ee01", []api.Word{n(0), n(1)}, 4602, halted(api.HaltGas), nil},
		{"e3 0003", nil, 5, faulted(api.FaultSection), turnFull},
		{"e3 0001", nil, 5, faulted(api.FaultUnder), func(x *frame) { turnTaking(x); turnFull(x) }},
		{"e3 0001", nil, 5, faulted(api.FaultSection), func(x *frame) { turnTaking(x); x.c.Types[1].Out = never }},
	} {
		l.holds(t, nil)
	}
}

// FaultUnder at a CALLF is ahead of HaltRoom, and HaltRoom ahead of HaltReturns.
func TestTheFirstEndAtCalls(t *testing.T) {
	x := of(zeros(1024), raw("e3 0001 00")).section(api.Type{In: 127, Most: 1023}, raw("e3 0001 e4"))
	x.ends(t, 1025, 1024, halted(api.HaltRoom))
	// Section 1 calls itself till the return stack is full; the last call has no room either.
	deep := of(raw("e3 0001 00")).section(api.Type{Most: 0}, raw("5f e3 0001 e4")).gas(1 << 20)
	r, _, made := deep.gone(t)
	if got, _ := r.Ended(); made != 1+2*1023+2 || !alikeEnds(got, halted(api.HaltReturns)) {
		t.Errorf("%d steps, %+v", made, got)
	}
	deep.c.Types[1].Most = 1 // with 1024 words on the stack
	r, _, made = deep.gone(t)
	if got, _ := r.Ended(); made != 1+2*1023+2 || !alikeEnds(got, halted(api.HaltRoom)) {
		t.Errorf("%d steps, %+v", made, got)
	}
}

// 12.7: what is named ahead of a halt was done, what is named behind it was not.
func TestWhatIsDoneAheadOfAHalt(t *testing.T) {
	warm := func(a api.Address) func(w *world.World) { return func(w *world.World) { w.Warm(a) } }
	warmSlot := func(k uint64) func(w *world.World) { return func(w *world.World) { w.WarmSlot(self, n(k)) } }
	twelve, nobody := addr(12), addressWord(addr(12))
	gasless := halted(api.HaltGas)
	for _, l := range []struct {
		late
		done func(w *world.World)
	}{
		{late{"31", []api.Word{nobody}, 99, gasless, nil}, nil},
		{late{"31", []api.Word{nobody}, 100, gasless, nil}, warm(twelve)},
		{late{"31", []api.Word{nobody}, 2599, gasless, nil}, warm(twelve)},
		{late{"31", []api.Word{power(160)}, 9000, halted(api.HaltAddress), nil}, nil},
		{late{"54", numbers(1), 99, gasless, nil}, nil},
		{late{"54", numbers(1), 100, gasless, nil}, warmSlot(1)},
		{late{"54", numbers(1), 2099, gasless, nil}, warmSlot(1)},
		{late{"55", numbers(1, 0), 2300, gasless, nil}, nil},                      // Sentry is not left
		{late{"55", numbers(1, 0), 2301, gasless, nil}, warmSlot(1)},              // 2800 can't be paid
		{late{"55", numbers(1, 0), 100 + 2100 + 2799, gasless, nil}, warmSlot(1)}, // nothing is stored, nothing owed
		{late{"55", numbers(2, 1), 100 + 2100 + 19899, gasless, nil}, warmSlot(2)},
		{late{"55", numbers(2, 1), 90000, halted(api.HaltStill), turnStill}, nil},
		{late{"5d", numbers(2, 1), 90000, halted(api.HaltStill), turnStill}, nil},
		{late{"a1", numbers(0, 1, 5), 750 + 8 + 2, gasless, nil}, nil},
		{late{"a1", numbers(0, 1, 5), 750 + 7, gasless, nil}, nil},
		{late{"a1", numbers(0, 1, 5), 9000, halted(api.HaltStill), turnStill}, nil},
		{late{"f8", []api.Word{nobody, n(0), n(1), n(1)}, 102, gasless, nil}, nil}, // the piece can't be paid
		{late{"f8", []api.Word{nobody, n(0), n(1), n(1)}, 103, gasless, nil}, warm(twelve)},
		{late{"f8", []api.Word{nobody, n(0), n(1), n(1)}, 103 + 2499, gasless, nil}, warm(twelve)},
		{late{"f8", []api.Word{nobody, n(0), n(1), n(1)}, 103 + 2500 + 8999, gasless, nil}, warm(twelve)},
		{late{"f8", []api.Word{nobody, n(0), n(1), n(1)}, 103 + 2500 + 9000 + 24999, gasless, nil}, warm(twelve)},
		{late{"f8", []api.Word{nobody, n(0), n(1), n(1)}, 103, halted(api.HaltStill), turnStill}, nil},
		{late{"f8", []api.Word{power(160), n(0), n(1), n(1)}, 103, halted(api.HaltAddress), nil}, nil},
		{late{"f9", []api.Word{nobody, n(0), n(1)}, 103, gasless, nil}, warm(twelve)},
		{late{"fb", []api.Word{nobody, n(0), n(1)}, 103, gasless, nil}, warm(twelve)},
		{late{"f9", []api.Word{nobody, n(0), n(1)}, 102, gasless, nil}, nil},
		{late{"fb", []api.Word{nobody, n(0), n(1)}, 102, gasless, nil}, nil},
		{late{"ec00", numbers(0, 0, 0, 1), 90000, halted(api.HaltStill), turnStill}, nil},
		{late{"ec00", numbers(0, 0, 0, 1), 32008, gasless, nil}, nil},
	} {
		l.holds(t, l.done)
	}
}

// 12.7: what a step does is there when it is made, and stays, whatever the end.
func TestNothingIsTakenBack(t *testing.T) {
	work := slices.Concat(pushed(numbers(2, 5)...), raw("55"), pushed(numbers(1, 0)...), raw("55"), pushed(numbers(2, 6)...), raw("5d"), pushed(numbers(0, 2, 9)...), raw("a1"), pushed(numbers(12)...), raw("31 50"), pushed(numbers(5)...), raw("54 50"))
	made := func(w *world.World) {
		w.WarmSlot(self, n(2))
		w.Set(self, n(2), n(5))
		w.WarmSlot(self, n(1))
		w.Owe(4800)
		w.Set(self, n(1), n(0))
		w.TSet(self, n(2), n(6))
		w.Tell(api.Log{Address: self, Topics: numbers(9), Data: zero(2)})
		w.Warm(addr(12))
		w.WarmSlot(self, n(5))
	}
	for _, end := range []string{"00", "5f 5f f3", "5f 5f fd", "fe", "0c", "01", "", "e4", "5f 31 7fffffffffffffffffffffffffffffffffffffffffffffffffffffffffffffff 51"} {
		x := rich(work, raw(end)).gas(100000)
		r, w, _ := x.gone(t)
		want := x.made(t)
		made(want)
		if end[:min(4, len(end))] == "5f 3" {
			want.Warm(api.Address{})
		}
		if got, want := seen(w), seen(want); r.State() != api.Ended || got != want {
			t.Errorf("%s:\n%s\nnot\n%s", end, got, want)
		}
	}
}

// 12.7: what a step does to the world is there right behind it, and not ahead of it.
func TestWhatIsDoneIsThere(t *testing.T) {
	type thing struct {
		code  []byte
		there func(w *world.World) bool
	}
	things := []thing{
		{slices.Concat(pushed(numbers(2, 5)...), raw("55")), func(w *world.World) bool { return w.Get(self, n(2)) == n(5) && isWarmSlot(w, n(2)) }},
		{slices.Concat(pushed(numbers(1, 0)...), raw("55")), func(w *world.World) bool { return w.Get(self, n(1)) == n(0) && w.Owed() == 4800 }},
		{slices.Concat(pushed(numbers(2, 6)...), raw("5d")), func(w *world.World) bool { return w.TGet(self, n(2)) == n(6) }},
		{slices.Concat(pushed(numbers(0, 2, 9)...), raw("a1")), func(w *world.World) bool { return len(w.Logs()) == 1 }},
		{slices.Concat(pushed(numbers(12)...), raw("31")), func(w *world.World) bool { return isWarm(w, addr(12)) }},
		{slices.Concat(pushed(numbers(5)...), raw("54")), func(w *world.World) bool { return isWarmSlot(w, n(5)) }},
		{slices.Concat(pushed(numbers(11, 0, 0)...), raw("fb")), func(w *world.World) bool { return isWarm(w, addr(11)) }},
	}
	for i, x := range things {
		r, w := rich(x.code).gas(100000).begun(t)
		for len(x.code) > r.Sight().At+1 {
			if x.there(w) {
				t.Errorf("%d: there too early, at %+v", i, r.Sight())
			}
			r.Go(1)
		}
		r.Go(1)
		if !x.there(w) {
			t.Errorf("%d: not there, at %+v", i, r.Sight())
		}
	}
}

// 12.7: what Owe answers is not looked at, below and above its bounds.
func TestOweIsNotLookedAt(t *testing.T) {
	x := rich(pushed(numbers(1, 6)...), raw("55 00"))
	w := x.made(t)
	w.Set(self, n(1), n(0)) // cleared, though nothing is owed for it
	r := x.over(t, w)
	r.Go(many)
	if got, _ := r.Ended(); got.Kind != api.EndStop || w.Get(self, n(1)) != n(6) || w.Owed() != 0 {
		t.Errorf("%+v, %x, owed %d", got, w.Get(self, n(1)), w.Owed())
	}
	x = rich(pushed(numbers(1, 0)...), raw("55 00"))
	w = x.made(t)
	w.Owe(1 << 62)
	r = x.over(t, w)
	r.Go(many)
	if got, _ := r.Ended(); got.Kind != api.EndStop || w.Get(self, n(1)) != n(0) || w.Owed() != 1<<62 {
		t.Errorf("%+v, %x, owed %d", got, w.Get(self, n(1)), w.Owed())
	}
}

// 12.7: a run marks nothing, moves no value, raises no nonce and lays no code, also where it asks and where it deploys.
func TestWhatARunDoesNot(t *testing.T) {
	call := slices.Concat(pushed(numbers(10, 0, 1, 3)...), raw("f8 50"))
	create := slices.Concat(pushed(numbers(3, 0, 0, 1)...), raw("ec00 50"))
	deploy := slices.Concat(pushed(numbers(0, 1)...), raw("ee01"))
	x := rich(call, create, deploy).gas(200000).init()
	r, w := x.begun(t)
	was := w.Accounts()
	for range 2 {
		r.Go(many)
		if r.State() != api.Asking {
			t.Fatalf("%+v", r.Sight())
		}
		asked, _ := r.Asked()
		r.Give(api.Reply{Address: addr(99), Left: asked.Gas})
	}
	r.Go(many)
	if got, _ := r.Ended(); got.Kind != api.EndDeploy {
		t.Errorf("%+v", got)
	}
	now := w.Accounts()
	if len(now) != len(was) || now[0].Nonce != was[0].Nonce || now[0].Balance != was[0].Balance || !slices.Equal(now[0].Code, was[0].Code) {
		t.Errorf("%+v, not %+v", now, was)
	}
	if mark := w.Mark(); mark != 0 {
		t.Errorf("%d marks", mark)
	}
}
