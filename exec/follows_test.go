package exec_test

import (
	"testing"

	"vouch/api"
	"vouch/call"
	"vouch/exec"
)

// 15.4: Execute makes all steps, however many, and tells what is left behind the last of them.
func TestExecuteToTheEnd(t *testing.T) {
	for _, engine := range engines {
		l := list(rich, at(b, 0, coded(again)))
		for _, gas := range []uint64{0, 1, 2, 3, 1000, 3000001} {
			got, behind := executed(t, l, api.Block{}, valued(5, gas), engine)
			wants(t, gas, got, api.Result{Status: api.Halted, Why: api.HaltGas, Steps: gas/2 + 1}, behind, l)
		}
	}
}

// nops is code that costs 1 each.
func nops(size int) []byte {
	out := make([]byte, size)
	for i := range out {
		out[i] = 0x5b
	}
	return out
}

// 15.5, W3: Steps is up to Gas and one more, and just that where each costs 1; Left up to Gas, and just that where nothing costs.
func TestStepsAndLeft(t *testing.T) {
	for _, engine := range engines {
		l := list(rich, at(b, 0, coded(nops(100), stop)))
		for _, gas := range []uint64{0, 1, 2, 50, 99} {
			got, behind := executed(t, l, api.Block{}, from(gas), engine)
			wants(t, gas, got, api.Result{Status: api.Halted, Why: api.HaltGas, Steps: gas + 1}, behind, l)
		}
		for _, gas := range []uint64{100, 101, api.MaxGas} {
			got, behind := executed(t, l, api.Block{}, from(gas), engine)
			wants(t, gas, got, api.Result{Status: api.Done, Steps: 101, Left: gas - 100}, behind, l)
		}
		l = list(rich, at(b, 0, coded(stop)))
		got, behind := executed(t, l, api.Block{}, from(api.MaxGas), engine)
		wants(t, "all is left", got, api.Result{Status: api.Done, Steps: 1, Left: api.MaxGas}, behind, l)
	}
}

// 15.5: Back is at most a fifth of what was used, rounded down; all that is owed, where that is less; nothing, where it did not go well.
func TestBack(t *testing.T) {
	for _, engine := range engines {
		for _, row := range []struct {
			name   string
			code   []byte
			status int
			used   uint64
			back   uint64
		}{
			{"a fifth", join(store(1, 0), stop), api.Done, 5005, 1001},
			{"a fifth, rounded down", join(nops(4), store(1, 0), stop), api.Done, 5009, 1001},
			{"a fifth of one more", join(nops(5), store(1, 0), stop), api.Done, 5010, 1002},
			{"all that is owed", join(store(1, 0), store(2, 1), stop), api.Done, 5005 + 22106, 4800},
			{"nothing is owed", join(store(1, 6), stop), api.Done, 5006, 0},
			{"taken back", join(store(1, 0), reverts), api.Reverted, 5009, 0},
			{"halted", join(store(1, 0), invalid), api.Halted, 50000, 0},
		} {
			x := at(b, 0, coded(row.code))
			x.Slots = []api.Slot{{Key: n(1), Value: n(5)}}
			got, _ := executed(t, list(rich, x), api.Block{}, from(50000), engine)
			if got.Status != row.status || got.Back != row.back || got.Left != 50000-row.used+row.back {
				t.Errorf("%s by %d: %+v", row.name, engine, got)
			}
		}
	}
}

// 15.5, W12: behind a still message the accounts are those of the list, whatever its code tries, and whomever it calls.
func TestStill(t *testing.T) {
	for _, engine := range engines {
		for name, code := range map[string][]byte{
			"stops": coded(stop), "stores": coded(store(1, 1), stop), "tells": coded(tell(1), stop), "keeps": coded(tstore(1, 1), stop),
			"gives": coded(calls(d, 1), drop, stop), "makes": with(nest(maker()), makes(0, 0, 1), drop, stop), "takes back": coded(reverts),
		} {
			l := list(rich, at(b, 9, coded(calls(c, 0), drop, stop)), at(c, 9, code))
			for _, to := range []api.Address{b, c, d} {
				m := api.Message{From: a, To: to, Gas: 300000, Still: true}
				got, behind := executed(t, l, api.Block{}, m, engine)
				if !same(behind, l) || len(got.Logs) != 0 {
					t.Errorf("%s: %+v\n%s", name, got, text(behind))
				}
			}
		}
	}
}

// 15.5, W7: behind a message that is not Done the accounts are those of the list, but From's nonce, where an account was to be made: it may be From's first thing.
func TestNotDone(t *testing.T) {
	busy := join(store(1, 1), tell(1), calls(d, 3), drop)
	coder := at(b, 9, coded(busy, reverts))
	coder.Slots = []api.Slot{{Key: n(1), Value: n(5)}}
	halts := at(c, 9, coded(busy, invalid))
	for _, engine := range engines {
		for _, who := range []api.Account{rich, {Address: a, Nonce: 1<<64 - 2, Balance: n(50)}, {Address: e, Balance: n(7)}} {
			l := list(who, coder, halts)
			raised := who
			raised.Nonce++
			for name, row := range map[string]struct {
				m      api.Message
				status int
				want   []api.Account
			}{
				"reverted":              {api.Message{To: b, Value: n(2)}, api.Reverted, l},
				"halted":                {api.Message{To: c, Value: n(2)}, api.Halted, l},
				"not made: it reverted": {api.Message{Make: true, Init: coded(busy, reverts), Value: n(2)}, api.Reverted, list(raised, coder, halts)},
				"not made: it halted":   {api.Message{Make: true, Init: coded(busy, invalid), Value: n(2)}, api.Halted, list(raised, coder, halts)},
				"not made: no gas":      {api.Message{Make: true, Init: coded(busy, again), Value: n(2)}, api.Halted, list(raised, coder, halts)},
			} {
				row.m.From, row.m.Gas = who.Address, 100000
				got, behind := executed(t, l, api.Block{}, row.m, engine)
				if got.Status != row.status || got.Made != (api.Address{}) || got.Back != 0 || len(got.Logs) != 0 || !same(behind, row.want) {
					t.Errorf("%s by %d: %+v\n%s", name, engine, got, text(behind))
				}
			}
		}
		// nobody: a nonce is all that it has from then on
		got, behind := executed(t, list(coder), api.Block{}, api.Message{From: d, Make: true, Init: coded(reverts), Gas: 9}, engine)
		wants(t, "nobody", got, api.Result{Status: api.Reverted, Left: 5, Steps: 3}, behind, list(coder, api.Account{Address: d, Nonce: 1}))
	}
}

// 15.5, W9: the accounts behind a message are a world: what a run has made can be handed in, called, and makes others; what has nothing left is gone, slots too.
func TestOneBehindTheOther(t *testing.T) {
	last := fitted(nil, nil, []byte{5}, stop)
	second := with(nest(with(nest(last), store(8, 9), deploys)), makes(0, 0, 1), keep(3), store(4, 0), stop)
	first := with(nest(second), store(4, 6), deploys)
	for _, engine := range engines {
		got, l := executed(t, list(rich), api.Block{}, making(first, 3000000), engine)
		one := call.Made(a, n(0))
		raised := rich
		raised.Nonce = 1
		x := api.Account{Address: one, Nonce: 1, Code: second, Slots: []api.Slot{{Key: n(4), Value: n(6)}}}
		if got.Made != one || !same(l, list(raised, x)) {
			t.Fatalf("%+v\n%s", got, text(l))
		}
		got, l = executed(t, l, api.Block{}, api.Message{From: a, To: one, Value: n(100), Gas: 3000000}, engine)
		two := call.Made(one, n(1))
		raised.Balance = n(0)
		x.Nonce, x.Balance, x.Slots = 2, n(100), []api.Slot{{Key: n(3), Value: wordOf(two)}}
		y := api.Account{Address: two, Nonce: 1, Code: last, Slots: []api.Slot{{Key: n(8), Value: n(9)}}}
		if got.Status != api.Done || !same(l, list(raised, x, y)) {
			t.Fatalf("%+v\n%s", got, text(l))
		}
		// what is made once more stands there already
		got, l = executed(t, l, api.Block{}, api.Message{From: two, To: one, Gas: 3000000}, engine)
		x.Nonce, x.Slots = 3, nil
		if got.Status != api.Done || !same(l, list(raised, x, y)) {
			t.Fatalf("%+v\n%s", got, text(l))
		}
		refused(t, "taken", ask{l: l, m: making(first, 3000000), engine: engine}, exec.Refusal{Code: api.ErrTaken})
	}
}

// 15.5, W7: the balances are together those of the list, whoever is paid: oneself, nobody, what is made; up to 2^256 - 1.
func TestBalances(t *testing.T) {
	all := api.Word{1<<64 - 1, 1<<64 - 1, 1<<64 - 1, 1<<64 - 1}
	most := api.Account{Address: a, Balance: all}
	for _, engine := range engines {
		got, behind := executed(t, list(most), api.Block{}, api.Message{From: a, To: a, Value: all}, engine)
		wants(t, "to itself", got, api.Result{Status: api.Done}, behind, list(most))
		got, behind = executed(t, list(most), api.Block{}, api.Message{From: a, To: b, Value: all}, engine)
		wants(t, "all", got, api.Result{Status: api.Done}, behind, list(api.Account{Address: b, Balance: all}))
		m := making(maker(), 10000)
		m.Value = all
		got, behind = executed(t, list(most), api.Block{}, m, engine)
		x := call.Made(a, n(0))
		wants(t, "to what is made", got, api.Result{Status: api.Done, Left: 5996, Steps: 3, Made: x}, behind,
			list(api.Account{Address: a, Nonce: 1}, api.Account{Address: x, Nonce: 1, Balance: all, Code: coded(stop)}))
	}
}
