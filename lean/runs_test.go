package lean_test

import (
	"bytes"
	"reflect"
	"slices"
	"testing"

	"vouch/api"
	"vouch/exec"
)

var engines = []int{api.Checked, api.Fast}

// Who asks, whose code is asked, and another one.
var a, b, e = api.Address{19: 10}, api.Address{19: 11}, api.Address{19: 14}

// n is a small number as a word.
func n(x uint64) api.Word { return api.Word{x} }

// worldWith is a world in which B has these bytes as its code.
func worldWith(code []byte, slots []api.Slot) []api.Account {
	return []api.Account{
		{Address: a, Nonce: 3, Balance: n(10000)},
		{Address: b, Nonce: 1, Balance: n(50), Code: code, Slots: slots},
		{Address: e, Balance: n(9)},
	}
}

// without is accounts of which B has no code, so that they may be held against each other.
func without(l []api.Account) []api.Account {
	l = slices.Clone(l)
	for i := range l {
		if l[i].Address == b {
			l[i].Code = nil
		}
		if len(l[i].Slots) == 0 {
			l[i].Slots = nil
		}
		if len(l[i].Code) == 0 {
			l[i].Code = nil
		}
	}
	return l
}

// plainResult is a result without what may be less or more, nil where a list is empty.
func plainResult(r api.Result) api.Result {
	r.Left, r.Back, r.Steps = 0, 0, 0
	if len(r.Output) == 0 {
		r.Output = nil
	}
	if len(r.Logs) == 0 {
		r.Logs = nil
	}
	return r
}

// short: did the run halt for what may not happen with less code?
func short(r api.Result) bool {
	return r.Status == api.Halted && (r.Why == api.HaltGas || r.Why == api.HaltRoom)
}

// run is what a message does; false: it says nothing of one that has less code.
func run(l []api.Account, block api.Block, m api.Message, engine int) (api.Result, []api.Account, bool) {
	r, behind, wrong := exec.Execute(l, block, m, engine)
	return r, behind, wrong == nil && !short(r)
}

// runsAlike holds a run by a container's bytes against one by the bytes of what it was turned into; it tells the first one's result, or that there is nothing to be held.
func runsAlike(t testing.TB, c, d api.Container, m api.Message, block api.Block, slots []api.Slot, engine int) (api.Result, bool) {
	t.Helper()
	code, less := bytesOf(c), bytesOf(d)
	of, by := worldWith(code, slots), worldWith(less, slots)
	second := m
	if m.Make {
		of, by = worldWith(stops(), slots), worldWith(stops(), slots)
		m.Init, second.Init = code, less
	}
	x, behind, says := run(of, block, m, engine)
	if !says {
		return api.Result{}, false
	}
	y, since, wrong := exec.Execute(by, block, second, engine)
	if wrong != nil {
		t.Fatalf("%s: with %s the message is refused: %v", told(c), told(d), wrong)
	}
	if !reflect.DeepEqual(plainResult(x), plainResult(y)) || !reflect.DeepEqual(without(behind), without(since)) {
		t.Fatalf("%s: %+v, behind it %+v; with %s: %+v, behind it %+v", told(c), x, behind, told(d), y, since)
	}
	if y.Steps > x.Steps || y.Left < x.Left || y.Left-y.Back < x.Left-x.Back {
		t.Fatalf("%s: %+v; with %s: %+v", told(c), x, told(d), y)
	}
	return x, true
}

// message is one to B, or one that makes an account; most have gas enough.
func (g drawing) message(makes bool) (api.Message, api.Block, []api.Slot) {
	m := api.Message{
		From:  a,
		To:    b,
		Value: n(pick(g, uint64(0), 0, 0, 5)),
		Input: g.bytes(pick(g, 0, 3, 40)),
		Gas:   pick(g, uint64(g.IntN(3000)), 60000, 60000, 150000),
		Price: n(uint64(g.IntN(9))),
		Make:  makes,
		Salt:  n(uint64(g.IntN(3))),
	}
	if !makes && g.IntN(20) == 0 {
		m.Still, m.Value = true, n(0)
	}
	var slots []api.Slot
	for key := range uint64(4) {
		if g.IntN(2) == 0 {
			slots = append(slots, api.Slot{Key: n(16 * key), Value: n(uint64(1 + g.IntN(3)))})
		}
	}
	return m, api.Block{Number: 3, Time: uint64(g.IntN(3)), Coinbase: e}, slots
}

// met is what drawn runs have met.
type met struct {
	ends               map[int]int
	output, logs, back int
}

func (x *met) add(r api.Result) {
	x.ends[10*r.Status+r.Why]++
	x.output += min(1, len(r.Output))
	x.logs += min(1, len(r.Logs))
	x.back += int(min(1, r.Back))
}

// runsDrawn holds so many drawn messages, each over some container of a kind.
func runsDrawn(t *testing.T, seed uint64, kind, many int) met {
	g := draw(seed)
	x := met{ends: map[int]int{}}
	for held := 0; held < many; {
		c := g.container(plan{kind: kind, uneven: pick(g, 0, 0, 2)})
		d := leaned(t, c, kind)
		if same(c, d) {
			continue
		}
		for range 4 {
			m, block, slots := g.message(kind == api.Init)
			for _, engine := range engines {
				if r, says := runsAlike(t, c, d, m, block, slots, engine); says {
					held++
					x.add(r)
				}
			}
		}
	}
	return x
}

// 20.5, W17: drawn messages to an account, by the bytes of c and by those of Lean(c, Runtime), by both engines.
func TestRuns(t *testing.T) {
	x := runsDrawn(t, 5, api.Runtime, 2500)
	for _, end := range []int{10 * api.Done, 10 * api.Reverted, 10*api.Halted + api.HaltStill, 10*api.Halted + api.HaltInvalid} {
		if x.ends[end] < 50 {
			t.Errorf("only %d of %d", x.ends[end], end)
		}
	}
	if x.output < 300 || x.logs < 100 || x.back < 50 {
		t.Errorf("only %d with output, %d with logs, %d with gas back", x.output, x.logs, x.back)
	}
	t.Logf("%+v", x)
}

// 20.5, W17: drawn messages that make an account, by the bytes of c and by those of Lean(c, Init) as their Init: what is made is the same.
func TestMakes(t *testing.T) {
	x := runsDrawn(t, 6, api.Init, 1500)
	for _, end := range []int{10 * api.Done, 10 * api.Reverted, 10*api.Halted + api.HaltInvalid} {
		if x.ends[end] < 50 {
			t.Errorf("only %d of %d", x.ends[end], end)
		}
	}
	t.Logf("%+v", x)
}

// 20.5: what a run saves, in numbers: the steps and the gas of what is left out.
func TestSaved(t *testing.T) {
	for _, x := range []struct {
		text        string
		steps, left uint64
		less, more  uint64
	}{
		{"5b 5b 00", 3, 998, 1, 1000},
		{"5f 50 00", 3, 996, 1, 1000},
		{"e0 0000 00", 2, 998, 1, 1000},
		{"6001 e1 0004 36 e0 0003 5b 36 5b 50 00", 7, 987, 5, 989},
		{"6001 e1 0004 36 e1 0003 e0 0001 fe 00", 4, 991, 3, 993},
	} {
		c := fit(raw(x.text))
		d := held(t, c, api.Runtime)
		for _, engine := range engines {
			m := api.Message{From: a, To: b, Gas: 1000}
			r, _, _ := exec.Execute(worldWith(bytesOf(c), nil), api.Block{}, m, engine)
			s, _, _ := exec.Execute(worldWith(bytesOf(d), nil), api.Block{}, m, engine)
			if r.Status != api.Done || r.Steps != x.steps || r.Left != x.left || s.Status != api.Done || s.Steps != x.less || s.Left != x.more {
				t.Errorf("%s: %+v; %s: %+v", x.text, r, told(d), s)
			}
		}
	}
}

// 20.5: gas that comes back is capped by what was used: with fewer steps there may be less of it, but more is left, with it and without.
func TestBack(t *testing.T) {
	c := fit(times("5b", 300), raw("5f 6010 55 00"))
	slots := []api.Slot{{Key: n(16), Value: n(2)}}
	for _, engine := range engines {
		r, says := runsAlike(t, c, held(t, c, api.Runtime), api.Message{From: a, To: b, Gas: 20000}, api.Block{}, slots, engine)
		if !says || r.Back == 0 {
			t.Errorf("%+v", r)
		}
	}
}

// 20.5: a run that goes too deep into sections halts likewise, with less code too.
func TestReturns(t *testing.T) {
	c := high(of(typed(0, 0, 0, 0), "5b e3 0001 00", "5b 5f 50 e3 0001 e4"))
	d := held(t, c, api.Runtime)
	for _, engine := range engines {
		r, says := runsAlike(t, c, d, api.Message{From: a, To: b, Gas: 100000}, api.Block{}, nil, engine)
		if !says || r.Status != api.Halted || r.Why != api.HaltReturns || bytes.Equal(c.Codes[1], d.Codes[1]) {
			t.Errorf("%+v", r)
		}
	}
}
