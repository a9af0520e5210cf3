package exec_test

import (
	"errors"
	"testing"

	"vouch/api"
	"vouch/exec"
)

// The chapter's table 'Examples', row by row, by either engine.
func TestExamples(t *testing.T) {
	seven := at(a, 7, nil)
	stops := at(b, 0, raw("ef00010100040200010001ff0000000080000000"))
	pops := at(b, 0, raw("ef00010100040200010003ff000000008000015f5000"))
	for _, engine := range engines {
		for i, row := range []struct {
			l      []api.Account
			m      api.Message
			want   api.Result
			behind []api.Account
		}{
			{list(seven), valued(3, 5), api.Result{Status: api.Done, Left: 5}, list(at(a, 4, nil), at(b, 3, nil))},
			{list(seven), valued(3, 1<<32-1), api.Result{Status: api.Done, Left: 1<<32 - 1}, list(at(a, 4, nil), at(b, 3, nil))},
			{list(seven), valued(7, 5), api.Result{Status: api.Done, Left: 5}, list(at(b, 7, nil))},
			{list(seven, stops), from(0), api.Result{Status: api.Done, Steps: 1}, list(seven, stops)},
			{list(seven, pops), from(3), api.Result{Status: api.Halted, Why: api.HaltGas, Steps: 2}, list(seven, pops)},
		} {
			got, behind := executed(t, row.l, api.Block{}, row.m, engine)
			wants(t, i, got, row.want, behind, row.behind)
		}

		still := valued(3, 5)
		still.Still = true
		for i, row := range []struct {
			m      api.Message
			engine int
			want   exec.Refusal
		}{
			{valued(8, 5), engine, exec.Refusal{Code: api.ErrFunds}},
			{still, engine, exec.Refusal{Code: api.ErrStill}},
			{valued(3, 5), 3, exec.Refusal{Code: api.ErrArg}},
			{valued(3, 1<<32), engine, exec.Refusal{Code: api.ErrArg}},
			{making(stops.Code, 5), engine, exec.Refusal{Code: api.ErrInit, Reject: api.Reject{Code: api.ErrBarred}}},
		} {
			refused(t, i, ask{l: list(seven), m: row.m, engine: row.engine}, row.want)
		}
	}
}

// Those of DOC.md's 'Ten examples of the whole' that are one message; with the world behind it.
func TestExamplesOfTheWhole(t *testing.T) {
	word := func(x byte) []byte { return append(make([]byte, 31), x) }
	one := func(x api.Account, nonce uint64) []api.Account {
		x.Nonce = nonce
		return list(x)
	}
	slot := at(b, 0, raw("ef00010100040200010005ff000000008000025f60015500"))
	full := slot
	full.Slots = []api.Slot{{Key: n(1), Value: n(5)}}
	adds := at(b, 0, raw("ef0001010004020001000bff0000000080000260056007015f5260205ff3"))
	pops := at(b, 0, raw("ef00010100040200010003ff000000008000015f5000"))
	callee := at(b, 0, raw("ef0001010008020002000b0004ff00000000800002010100026005e300015f5260205ff3600202e4"))
	pair := list(at(b, 0, raw("ef00010100040200010008ff00000000800002602a5f5360015ffd")), at(c, 9, raw("ef0001010004020001000dff0000000080000460025f5f600bf85f5260205ff3")))
	logs := at(b, 1, raw("ef00010100040200010007ff00000000800003600760015fa100"))
	loop := at(b, 1, raw("ef0001010004020001000cff0000000080000260036001900380e1fff85000"))
	start := making(raw("ef0001010004020001000503000100000014ff0000000080000260025fee00ef00010100040200010001ff0000000080000000"), 50000)
	start.Value = n(4)
	fresh := api.Account{Address: api.Address(raw("970bee9b608bbaae15058b5b6ce9522be23802be")), Nonce: 1, Balance: n(4), Code: raw("ef00010100040200010001ff00020000800000000000")}
	still := from(2000)
	still.Still = true
	for i, row := range []struct {
		l      []api.Account
		m      api.Message
		want   api.Result
		behind []api.Account
	}{
		{list(at(a, 7, nil)), valued(3, 5), api.Result{Status: api.Done, Left: 5}, list(at(a, 4, nil), at(b, 3, nil))},
		{one(adds, 1), from(1000), api.Result{Status: api.Done, Left: 978, Steps: 8, Output: word(12)}, one(adds, 1)},
		{one(pops, 1), from(3), api.Result{Status: api.Halted, Why: api.HaltGas, Steps: 2}, one(pops, 1)},
		{one(callee, 1), from(1000), api.Result{Status: api.Done, Left: 968, Steps: 10, Output: word(10)}, one(callee, 1)},
		{one(full, 1), from(10000), api.Result{Status: api.Done, Left: 5996, Back: 1001, Steps: 4}, one(slot, 1)},
		{pair, api.Message{From: a, To: c, Gas: 30000}, api.Result{Status: api.Done, Left: 18361, Steps: 16, Output: word(1)}, pair},
		{list(at(a, 9, nil)), start, api.Result{Status: api.Done, Left: 45592, Steps: 3, Made: fresh.Address}, list(one(at(a, 5, nil), 1)[0], fresh)},
		{list(logs), from(2000), api.Result{Status: api.Done, Left: 1231, Steps: 5, Logs: []api.Log{{Address: b, Topics: []api.Word{n(7)}, Data: []byte{0}}}}, list(logs)},
		{list(logs), still, api.Result{Status: api.Halted, Why: api.HaltStill, Steps: 4}, list(logs)},
		{list(loop), from(100), api.Result{Status: api.Done, Left: 47, Steps: 18}, list(loop)},
	} {
		for _, engine := range engines {
			got, behind := executed(t, row.l, api.Block{}, row.m, engine)
			wants(t, i, got, row.want, behind, row.behind)
		}
	}
}

// 15.1: what errors.Is and errors.As find in the error of Execute and of Begin, written out.
func TestWhatAnErrorIs(t *testing.T) {
	_, _, err := exec.Execute(list(rich), api.Block{}, valued(101, 5), api.Fast)
	var no *exec.Refusal
	if !errors.Is(err, api.ErrFunds) || !errors.As(err, &no) || no.Code != 151 || err.Error() != "error 151" || errors.Unwrap(err) != api.ErrFunds {
		t.Errorf("%+v", err)
	}
	_, err = exec.Begin(list(rich, rich), api.Block{}, valued(101, 5), api.Fast)
	if !errors.Is(err, api.ErrOrder) || errors.Is(err, api.ErrFunds) || !errors.As(err, &no) || no.At != 1 || err.Error() != "error 110" {
		t.Errorf("%+v", err)
	}
}
