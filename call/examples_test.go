package call_test

import (
	"testing"

	"vouch/api"
	"vouch/call"
)

// The chapter's table 'Examples', row by row, by either engine.
func TestExamples(t *testing.T) {
	for _, engine := range engines {
		w := made(t, rich)
		wants(t, "a value", through(t, w, valued(3, 5), engine), api.Result{Status: api.Done, Left: 5})
		if w.Balance(a) != n(97) || w.Balance(b) != n(3) {
			t.Errorf("balances %v, %v", w.Balance(a), w.Balance(b))
		}

		still := valued(1, 5)
		still.Still = true
		for i, row := range []struct {
			m      api.Message
			engine int
			want   api.Errno
		}{
			{valued(101, 5), engine, api.ErrFunds},
			{still, engine, api.ErrStill},
			{valued(3, api.MaxGas+1), engine, api.ErrArg},
			{valued(3, 5), 3, api.ErrArg},
			{making(coded(stop), 5), engine, api.ErrInit},
		} {
			if r, wrong := call.New(made(t, rich), api.Block{}, row.m, row.engine); wrong != row.want || r != nil {
				t.Errorf("refusal %d: %v, not %v", i, wrong, row.want)
			}
		}

		for i, row := range []struct {
			code []byte
			m    api.Message
			want api.Result
			a, b uint64
		}{
			{raw("00"), from(0), api.Result{Status: api.Done, Steps: 1}, 100, 0},
			{raw("fe"), valued(3, 50), api.Result{Status: api.Halted, Why: api.HaltInvalid, Steps: 1}, 100, 0},
			{raw("5f 5f fd"), valued(3, 50), api.Result{Status: api.Reverted, Left: 46, Steps: 3}, 100, 0},
			{raw("5f 5f 5f 600c f8 50 00"), from(20000), api.Result{Status: api.Done, Left: 17389, Steps: 7}, 100, 0},
		} {
			w := made(t, rich, at(b, 0, coded(row.code)))
			r := begun(t, w, row.m, engine)
			if s, more := r.Next(); !more || s != (api.Seen{Self: b, Code: int(row.code[0]), Left: row.m.Gas}) {
				t.Errorf("row %d: next %+v, %v", i, s, more)
			}
			r.Go(many)
			got, _ := r.Ended()
			wants(t, i, got, row.want)
			if w.Balance(a) != n(row.a) || w.Balance(b) != n(row.b) {
				t.Errorf("row %d: balances %v, %v", i, w.Balance(a), w.Balance(b))
			}
		}
	}
}

// Those of DOC.md's 'Ten examples of the whole' that are one message.
func TestExamplesOfTheWhole(t *testing.T) {
	word := func(x byte) []byte { return append(make([]byte, 31), x) }
	slot := at(b, 0, raw("ef00010100040200010005ff000000008000025f60015500"))
	slot.Nonce, slot.Slots = 1, []api.Slot{{Key: n(1), Value: n(5)}}
	calling := api.Message{From: a, To: c, Gas: 30000}
	still := from(2000)
	still.Still = true
	start := making(raw("ef0001010004020001000503000100000014ff0000000080000260025fee00ef00010100040200010001ff0000000080000000"), 50000)
	start.Value = n(4)
	logs := raw("ef00010100040200010007ff00000000800003600760015fa100")
	for i, row := range []struct {
		l    []api.Account
		m    api.Message
		want api.Result
	}{
		{[]api.Account{at(a, 7, nil)}, valued(3, 5), api.Result{Status: api.Done, Left: 5}},
		{[]api.Account{at(b, 1, raw("ef0001010004020001000bff0000000080000260056007015f5260205ff3"))}, from(1000), api.Result{Status: api.Done, Left: 978, Steps: 8, Output: word(12)}},
		{[]api.Account{at(b, 1, raw("ef00010100040200010003ff000000008000015f5000"))}, from(3), api.Result{Status: api.Halted, Why: api.HaltGas, Steps: 2}},
		{[]api.Account{at(b, 1, raw("ef0001010008020002000b0004ff00000000800002010100026005e300015f5260205ff3600202e4"))}, from(1000), api.Result{Status: api.Done, Left: 968, Steps: 10, Output: word(10)}},
		{[]api.Account{slot}, from(10000), api.Result{Status: api.Done, Left: 5996, Back: 1001, Steps: 4}},
		{[]api.Account{at(b, 0, raw("ef00010100040200010008ff00000000800002602a5f5360015ffd")), at(c, 9, raw("ef0001010004020001000dff0000000080000460025f5f600bf85f5260205ff3"))}, calling, api.Result{Status: api.Done, Left: 18361, Steps: 16, Output: word(1)}},
		{[]api.Account{at(a, 9, nil)}, start, api.Result{Status: api.Done, Left: 45592, Steps: 3, Made: api.Address(raw("970bee9b608bbaae15058b5b6ce9522be23802be"))}},
		{[]api.Account{at(b, 1, logs)}, from(2000), api.Result{Status: api.Done, Left: 1231, Steps: 5, Logs: []api.Log{{Address: b, Topics: []api.Word{n(7)}, Data: []byte{0}}}}},
		{[]api.Account{at(b, 1, logs)}, still, api.Result{Status: api.Halted, Why: api.HaltStill, Steps: 4}},
		{[]api.Account{at(b, 1, raw("ef0001010004020001000cff0000000080000260036001900380e1fff85000"))}, from(100), api.Result{Status: api.Done, Left: 47, Steps: 18}},
	} {
		for _, engine := range engines {
			wants(t, i, through(t, made(t, row.l...), row.m, engine), row.want)
		}
	}
}
