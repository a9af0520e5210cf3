package world_test

import (
	"math/big"
	"slices"
	"testing"

	"vouch/api"
	"vouch/world"
)

// 11.3: accounts rise by address and slots by key, in whatever order they came.
func TestAccountsRise(t *testing.T) {
	d := draw(113)
	for range 50 {
		w, m := both(t)
		at, slots := addresses(), keys()
		d.Shuffle(len(at), func(i, j int) { at[i], at[j] = at[j], at[i] })
		for i, a := range at {
			d.Shuffle(len(slots), func(i, j int) { slots[i], slots[j] = slots[j], slots[i] })
			for _, x := range []asked{w, m} {
				x.Put(a, n(uint64(i+1)))
				x.Lay(a, codes()[1+i%2])
				for j, k := range slots {
					x.Set(a, k, n(uint64(j))) // one of them is 0: no slot
				}
			}
		}
		hold(t, "accounts in any order", w, m)
	}
}

// 11.3: all fields of an account, as they are now; what is none any more, and a slot that is 0, is not told.
func TestAccountsAsTheyAre(t *testing.T) {
	a, b, c := full(1), full(2), full(3)
	w := made(t, api.Account{Address: b, Nonce: 7, Balance: n(9), Code: stop(0), Slots: []api.Slot{{Key: n(1), Value: n(2)}, {Key: n(3), Value: n(4)}}})
	w.Put(c, n(1))
	w.Set(b, n(1), n(0))
	w.Set(b, n(2), n(6))
	w.Set(b, n(3), n(5))
	w.Move(b, a, n(9))
	w.Take(c, n(1))
	wantAccounts(t, "changed", w,
		api.Account{Address: a, Balance: n(9)},
		api.Account{Address: b, Nonce: 7, Code: stop(0), Slots: []api.Slot{{Key: n(2), Value: n(6)}, {Key: n(3), Value: n(5)}}})
	w.Move(a, b, n(9))
	w.Set(b, n(2), n(0))
	w.Set(b, n(3), n(0))
	wantAccounts(t, "all at one", w, api.Account{Address: b, Nonce: 7, Balance: n(9), Code: stop(0)})
	if l := made(t).Accounts(); len(l) != 0 {
		t.Errorf("of no account: %v", l)
	}
}

// 11.3: slots that were set without code are kept, and told from the moment on at which there is code.
func TestSlotsWithoutCode(t *testing.T) {
	a, b := full(1), full(2)
	w := made(t, api.Account{Address: a, Balance: n(1)})
	w.Set(a, n(2), n(5))
	w.Set(a, n(1), n(4))
	w.Set(b, n(1), n(6))
	wantAccounts(t, "without code", w, api.Account{Address: a, Balance: n(1)})
	if w.Is(b) || w.Get(a, n(2)) != n(5) || w.Get(b, n(1)) != n(6) {
		t.Error("slots without code are not kept, or make an account")
	}
	w.Move(a, b, n(1))
	wantAccounts(t, "moved", w, api.Account{Address: b, Balance: n(1)})
	w.Begin()
	w.Mark()
	wantErrno(t, "Lay", w.Lay(a, codes()[1]), api.OK)
	coded := api.Account{Address: a, Code: stop(0), Slots: []api.Slot{{Key: n(1), Value: n(4)}, {Key: n(2), Value: n(5)}}}
	wantAccounts(t, "with code", w, coded, api.Account{Address: b, Balance: n(1)})
	w.Back(0)
	wantAccounts(t, "behind Back", w, api.Account{Address: b, Balance: n(1)})
	if w.Get(a, n(1)) != n(4) {
		t.Error("behind Back the slot is gone")
	}
	w.Lay(a, codes()[1])
	wantAccounts(t, "with code again", w, coded, api.Account{Address: b, Balance: n(1)})
}

// 11.3: Sum is all balances together, those of every account.
func TestSumOfAll(t *testing.T) {
	if got := made(t).Sum(); got != n(0) {
		t.Errorf("of no account: %x", got)
	}
	w := made(t, api.Account{Address: full(1), Balance: below(9)}, api.Account{Address: full(2), Balance: n(5)}, api.Account{Address: full(3), Balance: n(3)}, api.Account{Address: full(4), Nonce: 1})
	if got := w.Sum(); got != below(1) {
		t.Errorf("of all there is: %x", got)
	}
	w = made(t, api.Account{Address: full(1), Balance: api.Word{1 << 63, 1, 2, 3}}, api.Account{Address: full(2), Balance: api.Word{1 << 63, 1, 2, 3}})
	if got := w.Sum(); got != (api.Word{0, 3, 4, 6}) {
		t.Errorf("with a carry: %x", got)
	}
}

// sumOf adds up the balances of accounts.
func sumOf(l []api.Account) *big.Int {
	sum := new(big.Int)
	for _, x := range l {
		sum.Add(sum, numberOf(x.Balance))
	}
	return sum
}

// 11.13: the accounts of a new world are the list that it was made of.
func TestAccountsOfNew(t *testing.T) {
	d := draw(1113)
	for range 400 {
		l := drawnList(d)
		wantAccounts(t, "New", made(t, l...), l...)
	}
}

// 11.13, W9: behind any drawn calls the accounts are a world, New of them tells the same, and Sum is their balances together.
func TestAccountsAreAWorld(t *testing.T) {
	for run := range uint64(30) {
		d := draw(13000 + run)
		w := made(t, wide()...)
		for _, c := range drawRow(d, 150, upTo(5), 30) {
			c.make(w)
			l := w.Accounts()
			if e, at := world.Check(l); e != api.OK || at != 0 {
				t.Fatalf("behind %s: Check: %d, %d:\n%s", c.name, e, at, accountsText(l))
			}
			wantAccounts(t, "New of accounts", made(t, l...), l...)
			if sum := sumOf(l); sum.BitLen() > 256 || wordOf(sum) != w.Sum() {
				t.Fatalf("behind %s: Sum %x, of accounts\n%s", c.name, w.Sum(), accountsText(l))
			}
		}
	}
}

// ledger is what there was at first, less what was taken and with what was put, now and at each mark.
type ledger struct {
	now   *big.Int
	marks []*big.Int
}

// 11.13, W7, W19: Sum is what it was, less what Take took and with what Put put, and goes back with them; nothing else changes it.
func TestNothingElseChangesTheSum(t *testing.T) {
	for run := range uint64(40) {
		d := draw(14000 + run)
		w := made(t, wide()...)
		led := ledger{now: sumOf(wide())}
		for range 300 {
			led.turn(d, w)
			if wordOf(led.now) != w.Sum() || led.now.Cmp(sumOf(w.Accounts())) != 0 {
				t.Fatalf("run %d: Sum %x, not %x; accounts\n%s", run, w.Sum(), led.now, accountsText(w.Accounts()))
			}
		}
	}
}

func (led *ledger) turn(d drawing, w *world.World) {
	a, v := d.address(), d.value()
	switch d.IntN(8) {
	case 0:
		if w.Take(a, v) == api.OK {
			led.now = new(big.Int).Sub(led.now, numberOf(v))
		}
	case 1:
		if w.Put(a, v) == api.OK {
			led.now = new(big.Int).Add(led.now, numberOf(v))
		}
	case 2:
		w.Mark()
		led.marks = append(led.marks, led.now)
	case 3:
		if mark := d.IntN(4); w.Back(mark) == api.OK {
			led.now, led.marks = led.marks[mark], led.marks[:mark]
		}
	case 4:
		if mark := d.IntN(4); w.Forget(mark) == api.OK {
			led.marks = led.marks[:mark]
		}
	case 5:
		if d.IntN(10) == 0 {
			w.Begin(a)
			led.marks = nil
		}
	default:
		// any other call: what is told of above is left out
		c := drawCall(d, span{-3, -1})
		if name := c.name[:4]; !slices.Contains([]string{"Take", "Put(", "Mark"}, name) {
			c.make(w)
		}
	}
}
