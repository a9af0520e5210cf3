package world_test

import (
	"testing"

	"vouch/api"
	"vouch/world"
)

func wantCheck(t *testing.T, row string, l []api.Account, e api.Errno, at int) {
	t.Helper()
	if got, place := world.Check(l); got != e || place != at {
		t.Errorf("%s: Check: %d, %d, not %d, %d", row, got, place, e, at)
	}
	w, got, place := world.New(l)
	if got != e || place != at {
		t.Errorf("%s: New: %d, %d, not %d, %d", row, got, place, e, at)
	}
	if (w == nil) != (e != api.OK) {
		t.Errorf("%s: New: a world: %v, beside %d", row, w != nil, got)
	}
}

// The chapter's table 'Examples': its rows of Check.
func TestExamplesOfCheck(t *testing.T) {
	a, b := full(1), full(2)
	wantCheck(t, "no account", nil, api.OK, 0)
	wantCheck(t, "A twice", []api.Account{{Address: a, Balance: n(5)}, {Address: a, Balance: n(6)}}, api.ErrOrder, 1)
	wantCheck(t, "no account at A", []api.Account{{Address: a}}, api.ErrEmpty, 0)
	wantCheck(t, "a slot without code", []api.Account{{Address: a, Balance: n(5), Slots: []api.Slot{{Key: n(1), Value: n(1)}}}}, api.ErrBare, 0)
	wantCheck(t, "too much", []api.Account{{Address: a, Balance: below(1)}, {Address: b, Balance: n(1)}}, api.ErrSum, 1)
	wantCheck(t, "no code", []api.Account{{Address: a, Nonce: 1, Code: []byte{0}}}, api.ErrCode, 0)
}

// answered holds what the calls of one row have answered.
func answered(t *testing.T, row string, got, want []any) {
	t.Helper()
	for i := range want {
		if got[i] != want[i] {
			t.Errorf("%s: the answer %d is %v, not %v", row, i, got[i], want[i])
		}
	}
}

// The chapter's table 'Examples': its rows of one world, one behind the other.
func TestExamples(t *testing.T) {
	a, b := full(1), full(2)
	w := made(t, api.Account{Address: a, Balance: n(5)})
	answered(t, "New", []any{w.Is(b), w.Move(a, b, n(6)), w.Move(a, b, n(2)), w.Is(b), w.Balance(a)},
		[]any{false, api.ErrFunds, api.OK, true, n(3)})
	answered(t, "Mark", []any{w.Mark(), w.Warm(b), w.Warm(b), w.Raise(b), w.Make(b), w.Owe(7), w.Owe(-8), w.Owed()},
		[]any{0, false, true, api.OK, api.ErrTaken, api.OK, api.ErrArg, 7})
	answered(t, "Back", []any{w.Back(0), w.Nonce(b), w.Warm(b), w.Owed(), w.Back(0)},
		[]any{api.OK, uint64(0), false, 0, api.ErrMark})
	w.Set(a, n(1), n(9))
	answered(t, "Set", []any{w.Get(a, n(1)), w.Original(a, n(1))}, []any{n(9), n(0)})
	wantAccounts(t, "Set", w, api.Account{Address: a, Balance: n(3)}, api.Account{Address: b, Balance: n(2)})
	w.Begin(a)
	answered(t, "Begin", []any{w.Original(a, n(1)), w.Warm(a), w.Warm(b)}, []any{n(9), true, false})
	answered(t, "Move", []any{w.Move(a, a, n(3)), w.Move(b, a, n(2)), w.Is(b), w.Sum()}, []any{api.OK, api.OK, false, n(5)})
	answered(t, "Take", []any{w.Take(a, n(6)), w.Take(a, n(2)), w.Put(b, below(3)), w.Put(b, below(4)), w.Sum()},
		[]any{api.ErrFunds, api.OK, api.ErrSum, api.OK, below(1)})
	answered(t, "Lay", []any{w.Lay(a, nil)}, []any{api.ErrArg})
}
