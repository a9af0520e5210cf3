package call

import (
	"fmt"
	"testing"

	"vouch/api"
	"vouch/container"
	"vouch/flow"
	"vouch/valid"
	"vouch/world"
)

// What no message leads to is looked at from inside: faults, of which valid code has none, and MaxDepth frames, for which no gas suffices.

// oneSection is the bytes of a container of one section.
func oneSection(code []byte, subs ...[]byte) []byte {
	c := api.Container{Types: []api.Type{{Out: api.NoReturn}}, Codes: [][]byte{code}, Subs: subs}
	heights, _, _ := flow.Heights(c.Types, 0, code)
	c.Types[0].Most = flow.Most(heights)
	b, _ := container.Serialize(c)
	return b
}

// chain is a world of the accounts 1 to 3: 1 has a balance, 2 stores, tells and calls 3 with a value, and 3 lends from 2; and so on.
func chain(t *testing.T) *world.World {
	t.Helper()
	two := []byte{0x60, 1, 0x60, 1, 0x55, 0x5f, 0x5f, 0xa0, 0x60, 1, 0x5f, 0x5f, 0x60, 3, 0xf8, 0x50, 0x00}
	three := []byte{0x60, 2, 0x5f, 0x55, 0x5f, 0x5f, 0x60, 2, 0xf9, 0x50, 0x00}
	w, wrong, at := world.New([]api.Account{
		{Address: api.Address{19: 1}, Balance: api.Word{100}},
		{Address: api.Address{19: 2}, Balance: api.Word{5}, Code: oneSection(two)},
		{Address: api.Address{19: 3}, Balance: api.Word{5}, Code: oneSection(three)},
	})
	if wrong != api.OK {
		t.Fatal(wrong, at)
	}
	return w
}

// 14.6, 14.9: a fault, wherever it comes about, ends the run: Faulted; the world is as at the first frame's mark, and no mark is left.
func TestFaults(t *testing.T) {
	one, two := api.Address{19: 1}, api.Address{19: 2}
	deploys := oneSection([]byte{0x60, 1, 0x5f, 0x55, 0x5f, 0x5f, 0xee, 0}, oneSection([]byte{0}))
	for _, engine := range []int{api.Checked, api.Fast} {
		for _, makes := range []bool{false, true} {
			for _, stand := range []int{1, 2, 3} {
				w, hand := chain(t), chain(t)
				m := api.Message{From: one, To: two, Value: api.Word{7}, Gas: 1000000, Make: makes, Init: deploys}
				if makes && stand > 1 {
					continue
				}
				r, wrong := New(w, api.Block{}, m, engine)
				if wrong != api.OK {
					t.Fatal(wrong)
				}
				steps := uint64(r.Go(3))
				for ; len(r.frames) < stand; steps++ {
					r.Go(1)
				}
				r.topmost().goOn = func(steps int) int { return 1 }
				r.topmost().state = func() int { return api.Ended }
				r.topmost().ended = func() (api.Ending, bool) {
					return api.Ending{Kind: api.EndFault, Why: api.FaultUnder}, true
				}
				if made := r.Go(9); made != 1 {
					t.Errorf("%d steps", made)
				}
				got, ended := r.Ended()
				if !ended || fmt.Sprint(got) != fmt.Sprint(api.Result{Status: api.Faulted, Why: api.FaultUnder, Steps: steps + 1}) {
					t.Errorf("%d frames by %d: %+v, %v", stand, engine, got, ended)
				}
				if _, more := r.Next(); more || r.Go(5) != 0 {
					t.Error("it goes on")
				}
				if makes {
					hand.Begin(one, Made(one, api.Word{}), api.Address{})
					hand.Raise(one)
				} else {
					hand.Begin(one, two, api.Address{})
				}
				if fmt.Sprint(w.Accounts()) != fmt.Sprint(hand.Accounts()) || len(w.Logs()) != 0 || w.Owed() != 0 || w.Mark() != 0 || w.Warm(api.Address{19: 3}) || w.WarmSlot(two, api.Word{1}) || !w.Warm(one) {
					t.Errorf("%d frames by %d: %v", stand, engine, w.Accounts())
				}
			}
		}
	}
}

// deep is a run of a message whose first frame stands so deep.
func deep(w *world.World, m api.Message, engine, depth int) *Run {
	r := &Run{world: w, engine: engine, rows: rows(), gas: m.Gas}
	by := senderOf(api.Block{}, m, nil)
	by.given.Depth = depth - 1
	w.Begin(m.From, m.To)
	r.begin(by, askOf(m))
	return r
}

// deepest lets a run go to its end: how deep its frames stood.
func deepest(r *Run) int {
	depth := 0
	for s, more := r.Next(); more; s, more = r.Next() {
		depth = max(depth, s.Depth)
		r.Go(1)
	}
	return depth
}

// 14.4: MaxDepth frames stand above one another, and not one more: whoever would ask for it is answered by its own step.
func TestMaxDepth(t *testing.T) {
	self, answers := api.Address{19: 2}, []byte{0x5f, 0x52, 0x60, 0x20, 0x5f, 0xf3}
	start := oneSection([]byte{0x5f, 0x5f, 0xfd})
	for name, row := range map[string]struct {
		code  []byte
		subs  [][]byte
		last  byte // what is left on the stack where no frame may stand above
		nonce uint64
	}{
		"EXTCALL":         {[]byte{0x5f, 0x5f, 0x5f, 0x60, 2, 0xf8}, nil, api.TookBack, 1},
		"EXTDELEGATECALL": {[]byte{0x5f, 0x5f, 0x60, 2, 0xf9}, nil, api.TookBack, 1},
		"EXTSTATICCALL":   {[]byte{0x5f, 0x5f, 0x60, 2, 0xfb}, nil, api.TookBack, 1},
		"EOFCREATE":       {[]byte{0x5f, 0x5f, 0x5f, 0x5f, 0xec, 0}, [][]byte{start}, 0, 2},
	} {
		for _, engine := range []int{api.Checked, api.Fast} {
			for _, depth := range []int{api.MaxDepth - 1, api.MaxDepth - 2} {
				w, wrong, _ := world.New([]api.Account{{Address: self, Nonce: 1, Code: oneSection(append(row.code, answers...), row.subs...)}})
				if wrong != api.OK {
					t.Fatal(name, wrong)
				}
				r := deep(w, api.Message{From: api.Address{19: 1}, To: self, Gas: 1000000}, engine, depth)
				if got := deepest(r); got != api.MaxDepth-1 {
					t.Errorf("%s by %d from %d: frames up to %d", name, engine, depth, got)
				}
				last, nonce := row.last, uint64(1)
				if depth < api.MaxDepth-1 { // a frame stood above, and went; what was to be made was taken back
					last, nonce = api.Went, row.nonce
				}
				got, _ := r.Ended()
				if got.Status != api.Done || len(got.Output) != 32 || got.Output[31] != last || w.Nonce(self) != nonce {
					t.Errorf("%s by %d from %d: %+v, nonce %d", name, engine, depth, got, w.Nonce(self))
				}
			}
		}
	}
}

// Either machine makes the steps: over valid code they can't be told apart, so the frame here is of another kind than its code: the checked machine finds that at its first step, the fast one does not begin.
func TestWhichMachine(t *testing.T) {
	w := chain(t)
	stops, no := valid.Validate(oneSection([]byte{0}), api.Runtime)
	if no.Code != api.OK {
		t.Fatal(no)
	}
	looks := machineOf(api.Checked, w, stops, api.Frame{Kind: api.Init, Gas: 9})
	looks.goOn(1)
	if end, _ := looks.ended(); end.Kind != api.EndFault || end.Why != api.FaultOpcode {
		t.Errorf("%+v", end)
	}
	defer func() {
		if recover() == nil {
			t.Error("the fast machine has begun")
		}
	}()
	machineOf(api.Fast, w, stops, api.Frame{Kind: api.Init, Gas: 9}).state()
}
