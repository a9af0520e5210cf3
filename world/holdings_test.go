package world_test

import (
	"math"
	"slices"
	"testing"

	"vouch/api"
	"vouch/valid"
)

// 11.4: an address of which nothing was said has nothing.
func TestNothingSaid(t *testing.T) {
	w := made(t, api.Account{Address: full(1), Nonce: 3, Balance: n(5), Code: stop(0), Slots: []api.Slot{{Key: n(1), Value: n(2)}}})
	for at := range 20 { // it differs in one byte alone
		a := with(full(1), at, 2)
		c, ok := w.Code(a)
		if w.Is(a) || w.Balance(a) != n(0) || w.Nonce(a) != 0 || c != nil || ok || w.Get(a, n(1)) != n(0) || w.Original(a, n(1)) != n(0) {
			t.Errorf("%x has something", a)
		}
	}
	wantErrno(t, "Take", w.Take(full(2), n(1)), api.ErrFunds)
	wantErrno(t, "Take of nothing", w.Take(full(2), n(0)), api.OK)
	wantErrno(t, "Move", w.Move(full(2), full(1), n(1)), api.ErrFunds)
	wantErrno(t, "Move of nothing", w.Move(full(2), full(3), n(0)), api.OK)
	wantErrno(t, "Put of nothing", w.Put(full(2), n(0)), api.OK)
	w.Set(full(2), n(1), n(1))
	w.TSet(full(2), n(1), n(1))
	w.Warm(full(2))
	w.WarmSlot(full(2), n(1))
	if w.Is(full(2)) || w.Is(full(3)) {
		t.Error("an account came of nothing")
	}
}

// 11.4: each of nonce, balance and code alone makes an account; and one that has none of them any more is none.
func TestIs(t *testing.T) {
	a := full(1)
	for part := range 4 {
		balance := api.Word{}
		balance[part] = 1
		w := made(t, api.Account{Address: a, Balance: balance})
		if !w.Is(a) || w.Balance(a) != balance || w.Nonce(a) != 0 {
			t.Errorf("a balance alone: %x", w.Balance(a))
		}
		wantErrno(t, "Take", w.Take(a, balance), api.OK)
		if w.Is(a) {
			t.Error("an account of nothing")
		}
	}
	w := made(t)
	w.Raise(a)
	if !w.Is(a) || w.Nonce(a) != 1 || w.Balance(a) != n(0) {
		t.Error("a nonce alone")
	}
	w = made(t)
	w.Lay(a, codes()[1])
	if !w.Is(a) || w.Nonce(a) != 0 || w.Balance(a) != n(0) {
		t.Error("code alone")
	}
	w = made(t, api.Account{Address: a, Nonce: math.MaxUint64, Balance: below(1), Code: stop(2)})
	c, ok := w.Code(a)
	if !w.Is(a) || w.Nonce(a) != math.MaxUint64 || w.Balance(a) != below(1) || !ok || !slices.Equal(c.Bytes(), stop(2)) || c.Kind() != api.Runtime {
		t.Error("all three")
	}
}

// wantBalances: those of the addresses of twenty bytes 1, 2, .. .
func wantBalances(t *testing.T, row string, x asked, l ...api.Word) {
	t.Helper()
	for i, v := range l {
		if got := x.Balance(full(byte(i + 1))); got != v {
			t.Errorf("%s: the balance %d is %x, not %x", row, i+1, got, v)
		}
	}
}

// 11.5: Move at nothing, at the whole balance and one above it, and of an address to itself.
func TestMove(t *testing.T) {
	a, b := full(1), full(2)
	for _, whole := range []api.Word{n(1), n(7), {0, 1}, {0, 0, 1}, {5, 0, 0, 1}, below(4)} {
		w := made(t, api.Account{Address: a, Balance: whole}, api.Account{Address: b, Balance: n(3)})
		more := wordOf(numberOf(whole).Add(numberOf(whole), power(0)))
		less := wordOf(numberOf(whole).Sub(numberOf(whole), power(0)))
		wantErrno(t, "one above", w.Move(a, b, more), api.ErrFunds)
		wantErrno(t, "one above, to itself", w.Move(a, a, more), api.ErrFunds)
		wantErrno(t, "far above", w.Move(b, a, below(1)), api.ErrFunds)
		wantBalances(t, "refused", w, whole, n(3))
		wantErrno(t, "nothing", w.Move(a, b, n(0)), api.OK)
		wantErrno(t, "all, to itself", w.Move(a, a, whole), api.OK)
		wantErrno(t, "some, to itself", w.Move(b, b, n(2)), api.OK)
		wantBalances(t, "unchanged", w, whole, n(3))
		wantErrno(t, "all but one", w.Move(a, b, less), api.OK)
		wantBalances(t, "all but one", w, n(1), wordOf(numberOf(less).Add(numberOf(less), numberOf(n(3)))))
		wantErrno(t, "the last one", w.Move(a, b, n(1)), api.OK)
		if w.Is(a) {
			t.Error("what has given all is an account")
		}
		wantErrno(t, "one more", w.Move(a, b, n(1)), api.ErrFunds)
		wantErrno(t, "back", w.Move(b, a, whole), api.OK)
		wantBalances(t, "back", w, whole, n(3))
	}
}

// 11.5: a move leaves nonce, code and slots of both.
func TestMoveLeavesTheRest(t *testing.T) {
	x := api.Account{Address: full(1), Nonce: 3, Balance: n(9), Code: stop(0), Slots: []api.Slot{{Key: n(1), Value: n(1)}}}
	y := api.Account{Address: full(2), Nonce: 4, Code: stop(1), Slots: []api.Slot{{Key: n(2), Value: n(2)}}}
	w := made(t, x, y)
	w.Move(full(1), full(2), n(9))
	x.Balance, y.Balance = n(0), n(9)
	wantAccounts(t, "Move", w, x, y)
	w.Take(full(2), n(4))
	w.Put(full(1), n(8))
	x.Balance, y.Balance = n(8), n(5)
	wantAccounts(t, "Take and Put", w, x, y)
	w.Raise(full(1))
	x.Nonce = 4
	wantAccounts(t, "Raise", w, x, y)
}

// 11.5: Take and Put at their edges.
func TestTakeAndPut(t *testing.T) {
	a, b := full(1), full(2)
	w := made(t, api.Account{Address: a, Balance: api.Word{0, 1}}, api.Account{Address: b, Balance: n(5)})
	wantErrno(t, "Take one above", w.Take(a, api.Word{1, 1}), api.ErrFunds)
	wantErrno(t, "Take far above", w.Take(a, below(1)), api.ErrFunds)
	wantBalances(t, "refused", w, api.Word{0, 1}, n(5))
	wantErrno(t, "Take one", w.Take(a, n(1)), api.OK)
	wantBalances(t, "one taken", w, n(math.MaxUint64), n(5))
	wantErrno(t, "Take all", w.Take(a, n(math.MaxUint64)), api.OK)
	if w.Is(a) || w.Sum() != n(5) {
		t.Errorf("all taken: %v, %x", w.Is(a), w.Sum())
	}
	wantErrno(t, "Put: Sum and v 2^256", w.Put(a, below(5)), api.ErrSum)
	wantErrno(t, "Put: Sum and v 2^256, where something is", w.Put(b, below(5)), api.ErrSum)
	wantErrno(t, "Put: far above", w.Put(b, below(1)), api.ErrSum)
	wantBalances(t, "refused", w, n(0), n(5))
	if w.Is(a) || w.Sum() != n(5) {
		t.Error("a Put that was refused changed something")
	}
	wantErrno(t, "Put: Sum and v 2^256 - 1", w.Put(a, below(6)), api.OK)
	wantBalances(t, "all there is", w, below(6), n(5))
	wantErrno(t, "Put: one more", w.Put(b, n(1)), api.ErrSum)
	wantErrno(t, "Put: nothing", w.Put(b, n(0)), api.OK)
	wantErrno(t, "Move all there is", w.Move(a, b, below(6)), api.OK)
	wantBalances(t, "at one", w, n(0), below(1))
	if w.Sum() != below(1) {
		t.Errorf("Sum %x", w.Sum())
	}
}

// 11.6: Raise up to the greatest nonce.
func TestRaise(t *testing.T) {
	a := full(1)
	w := made(t)
	for i := range uint64(5) {
		if w.Nonce(a) != i {
			t.Errorf("nonce %d, not %d", w.Nonce(a), i)
		}
		wantErrno(t, "Raise", w.Raise(a), api.OK)
	}
	for _, at := range []uint64{math.MaxUint32, 1<<63 - 1, math.MaxUint64 - 1} {
		w = made(t, api.Account{Address: a, Nonce: at})
		wantErrno(t, "Raise", w.Raise(a), api.OK)
		if w.Nonce(a) != at+1 {
			t.Errorf("behind %d: %d", at, w.Nonce(a))
		}
	}
	for range 2 {
		wantErrno(t, "Raise at the greatest", w.Raise(a), api.ErrTaken)
		if w.Nonce(a) != math.MaxUint64 || !w.Is(a) {
			t.Errorf("behind the greatest: %d", w.Nonce(a))
		}
	}
}

// 11.6: Make where there is nothing, or a balance alone; not where there is a nonce, or code.
func TestMake(t *testing.T) {
	a := full(1)
	rows := []struct {
		name  string
		at    api.Account
		e     api.Errno
		nonce uint64
	}{
		{"a balance alone", api.Account{Address: a, Balance: n(7)}, api.OK, 1},
		{"the nonce 1", api.Account{Address: a, Nonce: 1}, api.ErrTaken, 1},
		{"a nonce", api.Account{Address: a, Nonce: 6, Balance: n(1)}, api.ErrTaken, 6},
		{"the greatest nonce", api.Account{Address: a, Nonce: math.MaxUint64}, api.ErrTaken, math.MaxUint64},
		{"code alone", api.Account{Address: a, Code: stop(0)}, api.ErrTaken, 0},
		{"nonce and code", api.Account{Address: a, Nonce: 2, Code: stop(0)}, api.ErrTaken, 2},
	}
	for _, r := range rows {
		w := made(t, r.at)
		wantErrno(t, r.name, w.Make(a), r.e)
		want := r.at
		want.Nonce = r.nonce
		wantAccounts(t, r.name, w, want)
		wantErrno(t, r.name+", again", w.Make(a), api.ErrTaken)
	}
	w := made(t)
	w.Set(a, n(1), n(2))
	wantErrno(t, "nothing but a slot", w.Make(a), api.OK)
	wantAccounts(t, "nothing but a slot", w, api.Account{Address: a, Nonce: 1})
}

// 11.7: Lay of nil, of each kind of code, of the longest and one more.
func TestLay(t *testing.T) {
	a := full(1)
	laid, _ := codeOf(maker(), api.Init).Lay(0, []byte{8, 9})
	sub, _ := codeOf(parent(), api.Runtime).Sub(0)
	rows := []struct {
		name string
		c    *valid.Code
		e    api.Errno
	}{
		{"nil", nil, api.ErrArg},
		{"Runtime", codeOf(stop(0), api.Runtime), api.OK},
		{"Runtime of what is valid as either", codeOf(invalid(), api.Runtime), api.OK},
		{"Init of what is valid as either", codeOf(invalid(), api.Init), api.ErrCode},
		{"Init", codeOf(maker(), api.Init), api.ErrCode},
		{"a Sub", sub, api.ErrCode},
		{"one that was laid", laid, api.OK},
		{"one less than the longest", codeOf(long(api.MaxDeploy-1), api.Runtime), api.OK},
		{"the longest", codeOf(long(api.MaxDeploy), api.Runtime), api.OK},
		{"one too long", codeOf(long(api.MaxDeploy+1), api.Runtime), api.ErrCode},
		{"far too long", codeOf(stop(65535), api.Runtime), api.ErrCode},
	}
	for _, r := range rows {
		w := made(t, api.Account{Address: full(2), Code: stop(5)})
		wantErrno(t, r.name, w.Lay(a, r.c), r.e)
		got, ok := w.Code(a)
		if ok != (r.e == api.OK) || (got != nil) != ok || w.Is(a) != ok {
			t.Errorf("%s: Code: %v, %v; Is %v", r.name, got, ok, w.Is(a))
		}
		if got != nil && !slices.Equal(got.Bytes(), r.c.Bytes()) {
			t.Errorf("%s: other bytes", r.name)
		}
		// where code is already, the two errors that stand ahead are told all the same
		want := r.e
		if want == api.OK {
			want = api.ErrTaken
		}
		wantErrno(t, r.name+", where code is", w.Lay(full(2), r.c), want)
		if c, _ := w.Code(full(2)); !slices.Equal(c.Bytes(), stop(5)) {
			t.Errorf("%s, where code is: it is another one", r.name)
		}
	}
}

// 11.7: Lay leaves nonce and balance; a code may be laid at many addresses; behind Back there is none, and another one may be laid.
func TestLayAgain(t *testing.T) {
	c := codes()
	w := made(t, api.Account{Address: full(1), Nonce: 4, Balance: n(6)})
	w.Mark()
	wantErrno(t, "Lay", w.Lay(full(1), c[1]), api.OK)
	wantErrno(t, "Lay of the same", w.Lay(full(2), c[1]), api.OK)
	wantErrno(t, "Lay where code is", w.Lay(full(1), c[2]), api.ErrTaken)
	wantAccounts(t, "Lay", w, api.Account{Address: full(1), Nonce: 4, Balance: n(6), Code: stop(0)}, api.Account{Address: full(2), Code: stop(0)})
	w.Back(0)
	if got, ok := w.Code(full(1)); got != nil || ok || w.Is(full(2)) {
		t.Error("behind Back there is code")
	}
	wantErrno(t, "Lay of another", w.Lay(full(1), c[2]), api.OK)
	wantAccounts(t, "Lay of another", w, api.Account{Address: full(1), Nonce: 4, Balance: n(6), Code: stop(3)})
}
