package trace_test

import (
	"errors"
	"slices"
	"testing"

	"vouch/api"
	"vouch/exec"
	"vouch/trace"
)

// The chapter's table 'Examples', row by row.
func TestExamples(t *testing.T) {
	l := list(at(a, 7, nil), at(b, 0, raw("ef00010100040200010003ff000000008000015f5000")))
	tells(t, "Gas 9", ask{l: l, m: api.Message{From: a, To: b, Gas: 9}},
		api.Seen{Self: b, At: 0, Code: 0x5f, Height: 0, Left: 9},
		api.Seen{Self: b, At: 1, Code: 0x50, Height: 1, Left: 7},
		api.Seen{Self: b, At: 2, Code: 0x00, Height: 0, Left: 5})
	tells(t, "Gas 3", ask{l: l, m: api.Message{From: a, To: b, Gas: 3}},
		api.Seen{Self: b, At: 0, Code: 0x5f, Height: 0, Left: 3},
		api.Seen{Self: b, At: 1, Code: 0x50, Height: 1, Left: 1})
	tells(t, "From A, To A", ask{l: l, m: api.Message{From: a, To: a, Gas: 3}})
	seq, err := trace.Follow(l, api.Block{}, api.Message{From: a, To: a, Gas: 3, Value: n(8)})
	if seq != nil || !errors.Is(err, api.ErrFunds) {
		t.Errorf("%v, %v", seq != nil, err)
	}
}

// Those of DOC.md's 'Ten examples of the whole' that are a message: the third one's steps, and of the others how many there are.
func TestExamplesOfTheWhole(t *testing.T) {
	one := func(code string) []api.Account {
		return list(api.Account{Address: b, Nonce: 1, Code: raw(code)})
	}
	tells(t, "the third", ask{l: one("ef00010100040200010003ff000000008000015f5000"), m: from(9)},
		api.Seen{Self: b, At: 0, Code: 95, Height: 0, Left: 9},
		api.Seen{Self: b, At: 1, Code: 80, Height: 1, Left: 7},
		api.Seen{Self: b, At: 2, Code: 0, Height: 0, Left: 5})
	full := one("ef00010100040200010005ff000000008000025f60015500")
	full[0].Slots = []api.Slot{{Key: n(1), Value: n(5)}}
	pair := list(at(b, 0, raw("ef00010100040200010008ff00000000800002602a5f5360015ffd")), at(c, 9, raw("ef0001010004020001000dff0000000080000460025f5f600bf85f5260205ff3")))
	logs := one("ef00010100040200010007ff00000000800003600760015fa100")
	start := making(raw("ef0001010004020001000503000100000014ff0000000080000260025fee00ef00010100040200010001ff0000000080000000"), 50000)
	start.Value = n(4)
	still := from(2000)
	still.Still = true
	for i, row := range []struct {
		l     []api.Account
		m     api.Message
		steps int
	}{
		{list(at(a, 7, nil)), valued(3, 5), 0},
		{one("ef0001010004020001000bff0000000080000260056007015f5260205ff3"), from(1000), 8},
		{one("ef00010100040200010003ff000000008000015f5000"), from(3), 2},
		{one("ef0001010008020002000b0004ff00000000800002010100026005e300015f5260205ff3600202e4"), from(1000), 10},
		{full, from(10000), 4},
		{pair, api.Message{From: a, To: c, Gas: 30000}, 16},
		{list(at(a, 9, nil)), start, 3},
		{logs, from(2000), 5},
		{logs, still, 4},
		{one("ef0001010004020001000cff0000000080000260036001900380e1fff85000"), from(100), 18},
	} {
		if seen := slices.Collect(ask{l: row.l, m: row.m}.followed(t)); len(seen) != row.steps {
			t.Errorf("%d: %d steps, not %d", i, len(seen), row.steps)
		}
	}
}

// 17.1: what errors.Is and errors.As find in Follow's error, written out.
func TestWhatAnErrorIs(t *testing.T) {
	seq, err := trace.Follow(list(rich, rich), api.Block{}, valued(101, 5))
	var no *exec.Refusal
	if seq != nil || !errors.As(err, &no) || no.Code != 110 || no.At != 1 || err.Error() != "error 110" || !errors.Is(err, api.ErrOrder) || errors.Is(err, api.ErrFunds) {
		t.Errorf("%v, %+v", seq != nil, err)
	}
}
