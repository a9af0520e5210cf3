package world_test

import (
	"fmt"
	"math"
	"math/big"
	"slices"
	"testing"

	"vouch/api"
)

// goodCodes are bytes that may be an account's code, badCodes bytes that may not.
func goodCodes() [][]byte {
	return [][]byte{stop(0), stop(1), stop(300), invalid(), parent(), long(api.MaxDeploy - 1), long(api.MaxDeploy)}
}

func badCodes() [][]byte {
	cut := stop(2)
	under := stop(0)
	under[len(under)-1] = 0x50
	return [][]byte{
		{0}, {0xef}, {0xef, 0}, make([]byte, 20), []byte("no code"),
		cut[:len(cut)-1],        // open: a byte of the data is missing
		append(stop(0), 0),      // a byte behind it
		stop(0)[:19],            // cut
		under,                   // it parses, and is not valid
		maker(),                 // valid as Init alone
		long(api.MaxDeploy + 1), // valid, and too long
		make([]byte, api.MaxDeploy),
		make([]byte, api.MaxDeploy+1),
	}
}

// isGood: is it one of goodCodes, or of right's codes?
func isGood(b []byte) bool {
	return slices.ContainsFunc([][]byte{stop(0), stop(1), stop(2), stop(3), stop(4), stop(300), invalid(), parent()}, func(c []byte) bool { return slices.Equal(b, c) }) ||
		len(b) <= api.MaxDeploy && len(b) > 20000 && slices.Equal(b, long(len(b)))
}

// The clauses of 'Worlds', in their order; the last one is asked when all others hold for all accounts.
const (
	addressesRise = iota
	isAccount
	notBare
	keysRise
	slotsHold
	codeValid
	sumFits
)

func errnoOf(clause int) api.Errno {
	return []api.Errno{api.ErrOrder, api.ErrEmpty, api.ErrBare, api.ErrOrder, api.ErrEmpty, api.ErrCode, api.ErrSum}[clause]
}

// broken is a clause that is broken at an account.
type broken struct{ clause, at int }

// ahead: is x told ahead of y?
func (x broken) ahead(y broken) bool {
	if (x.clause == sumFits) != (y.clause == sumFits) {
		return y.clause == sumFits
	}
	if x.at != y.at {
		return x.at < y.at
	}
	return x.clause < y.clause
}

// holds asks one clause of one account, all others aside.
func holds(clause int, l []api.Account, at int) bool {
	x := l[at]
	switch clause {
	case addressesRise:
		return at == 0 || addressNumber(l[at-1].Address).Cmp(addressNumber(x.Address)) < 0
	case isAccount:
		return x.Nonce > 0 || numberOf(x.Balance).Sign() > 0 || len(x.Code) > 0
	case notBare:
		return len(x.Code) > 0 || len(x.Slots) == 0
	case keysRise:
		for i := 1; i < len(x.Slots); i++ {
			if numberOf(x.Slots[i-1].Key).Cmp(numberOf(x.Slots[i].Key)) >= 0 {
				return false
			}
		}
		return true
	case slotsHold:
		return !slices.ContainsFunc(x.Slots, func(s api.Slot) bool { return numberOf(s.Value).Sign() == 0 })
	case codeValid:
		return len(x.Code) == 0 || isGood(x.Code)
	}
	sum := new(big.Int)
	for _, y := range l[:at+1] {
		sum.Add(sum, numberOf(y.Balance))
	}
	return sum.Cmp(power(256)) < 0
}

// checkModel gathers all that is broken, and tells what comes first.
func checkModel(l []api.Account) (api.Errno, int) {
	var first *broken
	for at := range l {
		for clause := range sumFits + 1 {
			if x := (broken{clause, at}); !holds(clause, l, at) && (first == nil || x.ahead(*first)) {
				first = &x
			}
		}
	}
	if first == nil {
		return api.OK, 0
	}
	return errnoOf(first.clause), first.at
}

// right is a list of accounts that is a world: each has a nonce, a balance, code and slots.
func right(accounts int) []api.Account {
	var l []api.Account
	for i := range accounts {
		l = append(l, api.Account{
			Address: full(byte(10 * (i + 1))), Nonce: uint64(i + 1), Balance: n(uint64(i + 1)), Code: stop(i),
			Slots: []api.Slot{{Key: n(1), Value: n(1)}, {Key: n(5), Value: n(2)}, {Key: api.Word{0, 0, 0, 1}, Value: api.Word{0, 0, 0, 1}}},
		})
	}
	return l
}

// spoiler breaks a clause at an account.
type spoiler struct {
	clause int
	name   string
	spoil  func(l []api.Account, at int)
}

func spoilers() []spoiler {
	list := []spoiler{
		{addressesRise, "the same address", func(l []api.Account, at int) { l[at].Address = l[max(at-1, 0)].Address }},
		{addressesRise, "a lower address", func(l []api.Account, at int) { l[at].Address = with(l[max(at-1, 0)].Address, 19, 0) }},
		{isAccount, "no account", func(l []api.Account, at int) {
			l[at].Nonce, l[at].Balance, l[at].Code = 0, api.Word{}, nil
			l[at].Slots = nil
		}},
		{isAccount, "no account, with slots", func(l []api.Account, at int) { l[at].Nonce, l[at].Balance, l[at].Code = 0, api.Word{}, []byte{} }},
		{notBare, "slots without code", func(l []api.Account, at int) { l[at].Code = nil }},
		{keysRise, "a key twice", func(l []api.Account, at int) { l[at].Slots[1].Key = l[at].Slots[0].Key }},
		{keysRise, "a key that falls", func(l []api.Account, at int) { l[at].Slots[2].Key = n(4) }},
		{slotsHold, "a slot 0", func(l []api.Account, at int) { l[at].Slots[0].Value = api.Word{} }},
		{slotsHold, "the last slot 0", func(l []api.Account, at int) { l[at].Slots[2].Value = api.Word{} }},
		{sumFits, "too much", func(l []api.Account, at int) { l[at].Balance = below(1) }},
	}
	for i, b := range badCodes() {
		list = append(list, spoiler{codeValid, fmt.Sprintf("bad code %d", i), func(l []api.Account, at int) { l[at].Code = slices.Clone(b) }})
	}
	return list
}

// 11.1: each clause broken alone, at each account at which it can be.
func TestEachClause(t *testing.T) {
	for _, s := range spoilers() {
		for at := range 4 {
			if at == 0 && (s.clause == addressesRise || s.clause == sumFits) {
				continue
			}
			l := right(4)
			s.spoil(l, at)
			if s.clause == addressesRise && at < 3 { // the one behind it is to rise all the same
				l[at+1].Address = full(byte(10*(at+2) + 1))
			}
			wantCheck(t, s.name, l, errnoOf(s.clause), at)
		}
	}
}

// spoiled is a list that is spoiled in two ways; false: they do not go together.
func spoiled(first, second spoiler, at, behind int) ([]api.Account, bool) {
	l := right(4)
	defer func() { recover() }() // one that has no slots left can't be spoiled there
	first.spoil(l, at)
	second.spoil(l, behind)
	return l, !holds(first.clause, l, at) && !holds(second.clause, l, behind)
}

// apart: can't these clauses be broken at one account? (One that is none has no code that could be wrong, and adds nothing to the sum.)
func apart(one, two int) bool {
	low, high := min(one, two), max(one, two)
	return high == codeValid && (low == notBare || low == isAccount) || low == isAccount && high == sumFits
}

// 11.1: two clauses at once, at one account and at two: the first one is told.
func TestTwoClauses(t *testing.T) {
	tried := map[[2]broken]bool{}
	for _, first := range spoilers() {
		for _, second := range spoilers() {
			for place := range 16 {
				at, behind := place/4, place%4
				l, ok := spoiled(first, second, at, behind)
				if !ok || len(l[at].Code) > 20000 || len(l[behind].Code) > 20000 {
					continue
				}
				tried[[2]broken{{first.clause, at}, {second.clause, behind}}] = true
				e, where := checkModel(l)
				wantCheck(t, first.name+" and "+second.name, l, e, where)
			}
		}
	}
	for one := range sumFits + 1 {
		for two := range sumFits + 1 {
			if !apart(one, two) && !tried[[2]broken{{one, 2}, {two, 2}}] {
				t.Errorf("the clauses %d and %d were not tried at one account", one, two)
			}
			if !tried[[2]broken{{one, 1}, {two, 2}}] {
				t.Errorf("the clauses %d and %d were not tried at two accounts", one, two)
			}
		}
	}
}

// 11.1: some of two clauses at once, in numbers written out.
func TestTwoClausesWrittenOut(t *testing.T) {
	a, zero, fall := full(1), []api.Slot{{Key: n(1)}}, []api.Slot{{Key: n(2), Value: n(1)}, {Key: n(1), Value: n(1)}}
	ok := api.Account{Address: full(1), Nonce: 1}
	rows := []struct {
		name string
		l    []api.Account
		e    api.Errno
		at   int
	}{
		{"order, empty", []api.Account{ok, {Address: a}}, api.ErrOrder, 1},
		{"empty, bare", []api.Account{{Address: a, Slots: zero}}, api.ErrEmpty, 0},
		{"bare, order of keys", []api.Account{{Address: a, Nonce: 1, Slots: fall}}, api.ErrBare, 0},
		{"bare, a slot 0", []api.Account{{Address: a, Nonce: 1, Slots: zero}}, api.ErrBare, 0},
		{"order of keys, code", []api.Account{{Address: a, Code: []byte{1}, Slots: fall}}, api.ErrOrder, 0},
		{"a slot 0, code", []api.Account{{Address: a, Code: []byte{1}, Slots: zero}}, api.ErrEmpty, 0},
		{"code, order behind it", []api.Account{{Address: a, Code: []byte{1}}, ok}, api.ErrCode, 0},
		{"bare, empty behind it", []api.Account{{Address: a, Nonce: 1, Slots: zero}, {Address: full(2)}}, api.ErrBare, 0},
		{"sum, empty behind it", []api.Account{{Address: a, Balance: below(1)}, {Address: full(2), Balance: n(1)}, {Address: full(3)}}, api.ErrEmpty, 2},
		{"sum, code at it", []api.Account{{Address: a, Balance: below(1)}, {Address: full(2), Balance: n(1), Code: []byte{1}}}, api.ErrCode, 1},
	}
	for _, r := range rows {
		wantCheck(t, r.name, r.l, r.e, r.at)
	}
}

// 11.1: lists that are worlds, at the edges of every clause.
func TestRightLists(t *testing.T) {
	rows := map[string][]api.Account{
		"an empty list":        {},
		"the greatest nonce":   {{Address: full(1), Nonce: math.MaxUint64}},
		"a balance alone":      {{Address: full(1), Balance: api.Word{0, 0, 0, 1}}},
		"all balance there is": {{Address: full(1), Balance: below(3)}, {Address: full(2), Nonce: 1}, {Address: full(3), Balance: n(1)}, {Address: full(4), Balance: n(1)}},
		"all addresses":        {{Address: full(0), Nonce: 1}, {Address: with(full(0), 19, 1), Nonce: 1}, {Address: full(0x7f), Nonce: 1}, {Address: full(0x80), Nonce: 1}, {Address: full(0xff), Nonce: 1}},
		"empty, not nil":       {{Address: full(1), Nonce: 1, Code: []byte{}, Slots: []api.Slot{}}},
		"all keys":             {{Address: full(1), Code: stop(0), Slots: []api.Slot{{Key: n(0), Value: n(1)}, {Key: n(1), Value: below(1)}, {Key: n(math.MaxUint64), Value: api.Word{0, 1}}, {Key: api.Word{0, 1}, Value: api.Word{0, 0, 1}}, {Key: below(1), Value: api.Word{0, 0, 0, 1}}}}},
		"wide":                 wide(),
	}
	for i, b := range goodCodes() {
		rows[fmt.Sprintf("good code %d", i)] = []api.Account{{Address: full(1), Code: b}, {Address: full(2), Code: b}}
	}
	for row, l := range rows {
		wantCheck(t, row, l, api.OK, 0)
	}
}

// 11.1: addresses rise byte by byte, the first one ahead of all others, each as a number from 0 to 255.
func TestAddressesRise(t *testing.T) {
	for at := range 20 {
		for _, pair := range [][2]byte{{0, 1}, {0x7f, 0x80}, {0x80, 0xff}, {0xfe, 0xff}} {
			low, high := with(full(9), at, pair[0]), with(full(9), at, pair[1])
			for i := at + 1; i < 20; i++ { // what stands behind does not count
				low[i], high[i] = 0xff, 0
			}
			wantCheck(t, "rising", []api.Account{{Address: low, Nonce: 1}, {Address: high, Nonce: 1}}, api.OK, 0)
			wantCheck(t, "falling", []api.Account{{Address: high, Nonce: 1}, {Address: low, Nonce: 1}}, api.ErrOrder, 1)
		}
	}
	wantCheck(t, "only to the one ahead", []api.Account{{Address: full(3), Nonce: 1}, {Address: full(1), Nonce: 1}, {Address: full(2), Nonce: 1}}, api.ErrOrder, 1)
}

// 11.1: keys rise as numbers; of one account's slots first all keys are looked at, then all words.
func TestKeysRise(t *testing.T) {
	account := func(l ...api.Slot) []api.Account {
		return []api.Account{{Address: full(1), Nonce: 1}, {Address: full(2), Code: stop(0), Slots: l}}
	}
	for part := range 4 {
		low, high := api.Word{5, 5, 5, 5}, api.Word{5, 5, 5, 5}
		high[part] = 1 << 63
		for i := range part { // what is lower does not count
			low[i], high[i] = math.MaxUint64, 0
		}
		wantCheck(t, "rising", account(api.Slot{Key: low, Value: n(1)}, api.Slot{Key: high, Value: n(1)}), api.OK, 0)
		wantCheck(t, "falling", account(api.Slot{Key: high, Value: n(1)}, api.Slot{Key: low, Value: n(1)}), api.ErrOrder, 1)
		wantCheck(t, "the same", account(api.Slot{Key: low, Value: n(1)}, api.Slot{Key: low, Value: n(2)}), api.ErrOrder, 1)
		alone := api.Word{}
		alone[part] = 1
		wantCheck(t, "a word in one part alone", account(api.Slot{Key: low, Value: alone}), api.OK, 0)
	}
	wantCheck(t, "a word 0 ahead of keys that fall", account(api.Slot{Key: n(1)}, api.Slot{Key: n(3), Value: n(1)}, api.Slot{Key: n(2), Value: n(1)}), api.ErrOrder, 1)
	wantCheck(t, "a word 0", account(api.Slot{Key: n(1), Value: n(1)}, api.Slot{Key: n(2)}), api.ErrEmpty, 1)
}

// 11.1: ErrSum is told behind all else, at the first account with which it is too much.
func TestSum(t *testing.T) {
	balances := func(l ...api.Word) []api.Account {
		var list []api.Account
		for i, v := range l {
			list = append(list, api.Account{Address: full(byte(i + 1)), Nonce: 1, Balance: v})
		}
		return list
	}
	high := api.Word{0, 0, 0, 1 << 63}
	wantCheck(t, "just all", balances(below(1), n(0), n(0)), api.OK, 0)
	wantCheck(t, "one too much", balances(below(3), n(1), n(0), n(2)), api.ErrSum, 3)
	wantCheck(t, "halves", balances(high, n(0), high, high), api.ErrSum, 2)
	wantCheck(t, "twice too much: modulo 2^256 it is little", balances(below(1), below(1), below(1), n(3)), api.ErrSum, 1)
	late := balances(below(1), n(1), n(1))
	late[2].Code = []byte{1}
	wantCheck(t, "code behind it", late, api.ErrCode, 2)
	late[2].Code, late[2].Address = nil, late[1].Address
	wantCheck(t, "an address behind it", late, api.ErrOrder, 2)
}

// drawnList is a list that is a world, of drawn accounts.
func drawnList(d drawing) []api.Account {
	l := right(d.IntN(6))
	for i := range l {
		x := &l[i]
		if d.IntN(3) == 0 {
			x.Code, x.Slots = nil, nil
		} else {
			x.Code = slices.Clone(pick(d, goodCodes()[:5]))
		}
		if d.IntN(3) == 0 {
			x.Slots = nil
		}
		if d.IntN(3) == 0 && len(x.Code) > 0 {
			x.Nonce = 0
		}
		if d.IntN(3) == 0 && x.Nonce > 0 {
			x.Balance = api.Word{}
		}
	}
	return l
}

// 11.1: drawn lists, spoiled in up to three ways, against the model.
func TestDrawnLists(t *testing.T) {
	d := draw(111)
	seen := map[api.Errno]int{}
	for range 3000 {
		l := drawnList(d)
		for range d.IntN(4) {
			s := pick(d, spoilers())
			func() {
				defer func() { recover() }() // where there is no such account, or slot
				s.spoil(l, d.IntN(len(l)))
			}()
		}
		e, at := checkModel(l)
		seen[e]++
		wantCheck(t, accountsText(l), l, e, at)
	}
	for _, e := range []api.Errno{api.OK, api.ErrOrder, api.ErrEmpty, api.ErrBare, api.ErrCode, api.ErrSum} {
		if seen[e] < 20 {
			t.Errorf("%d came %d times", e, seen[e])
		}
	}
}

// 11.2: what a new world knows: nothing is warm, no log, no transient slot, no mark, the refund 0; each word is its original.
func TestNewWorld(t *testing.T) {
	for _, l := range [][]api.Account{nil, wide()} {
		w, m := both(t, l...)
		hold(t, "New", w, m)
		wantAccounts(t, "New", w, l...)
		if len(w.Logs()) != 0 || w.Owed() != 0 {
			t.Errorf("logs %v, owed %d", w.Logs(), w.Owed())
		}
		wantErrno(t, "Back(0)", w.Back(0), api.ErrMark)
		wantErrno(t, "Forget(0)", w.Forget(0), api.ErrMark)
		for _, a := range addresses() {
			for _, k := range keys() {
				if w.TGet(a, k) != (api.Word{}) || w.Original(a, k) != w.Get(a, k) {
					t.Errorf("%x, %x: transient %x, original %x", a, k, w.TGet(a, k), w.Original(a, k))
				}
				if w.WarmSlot(a, k) {
					t.Errorf("%x, %x is warm", a, k)
				}
			}
			if w.Warm(a) {
				t.Errorf("%x is warm", a)
			}
		}
		if mark := w.Mark(); mark != 0 {
			t.Errorf("the first mark is %d", mark)
		}
	}
}
