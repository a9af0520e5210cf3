package audit_test

import (
	"bytes"
	"fmt"
	"math"
	"testing"

	"vouch/api"
	"vouch/audit"
	"vouch/word"
	"vouch/world"
)

// 18.1, R2: numbers of workers that may not be: no verdict and ErrWorkers, whatever the list is.
func TestNumbersThatMayNotBe(t *testing.T) {
	g := draw(182)
	all, _ := g.shuffled(samples(), 3)
	lists := [][]api.Account{nil, {}, {at(a, 1, nil)}, {at(a, 1, bytesOf(stop()))}, {at(a, 1, raw("ef"))}, {{}}, all}
	for _, workers := range []int{
		0, -1, -2, -api.MaxWorkers, -255, math.MinInt32, math.MinInt32 + 1, math.MinInt, math.MinInt + 1, 1<<32 - math.MaxInt,
		api.MaxWorkers + 1, api.MaxWorkers + 2, 2 * api.MaxWorkers, 255, 256, 257, 65537, math.MaxInt32, 1 << 32, 1<<32 + 1, 1<<32 + api.MaxWorkers, math.MaxInt - 1, math.MaxInt,
	} {
		for i, l := range lists {
			if got, wrong := audit.Audit(l, workers); len(got) != 0 || wrong != api.ErrWorkers {
				t.Errorf("list %d by %d: %v, %d", i, workers, got, wrong)
			}
		}
	}
}

// 18.1: all numbers that may be, and no other about them.
func TestNumbersThatMayBe(t *testing.T) {
	l := []api.Account{at(a, 1, raw("ef"))}
	for workers := -300; workers <= 300; workers++ {
		got, wrong := audit.Audit(l, workers)
		if may := workers >= 1 && workers <= 16; may != (wrong == api.OK) || may != (len(got) == 1) {
			t.Errorf("%d: %v, %d", workers, got, wrong)
		}
	}
}

// 18.1: lists without accounts, and without code: no verdict.
func TestNoCode(t *testing.T) {
	bare := []api.Account{
		{},
		at(a, 1, nil),
		at(a, 1, []byte{}),
		at(b, 1, bytesOf(stop())[:0]),
		{Address: c, Nonce: 1},
		{Address: d, Slots: []api.Slot{{Key: n(1), Value: n(1)}}},
	}
	tells(t, "nil", nil)
	tells(t, "no account", []api.Account{})
	tells(t, "no account, spare room", bare[:0])
	for i := range bare {
		tells(t, fmt.Sprint("one without code, ", i), bare[i:i+1])
		tells(t, fmt.Sprint("some without code, ", i), bare[i:])
	}
	many := make([]api.Account, 1000)
	tells(t, "1000 without code", many)
	many[999].Code = raw("00")
	tells(t, "999 without code", many, saying(api.Address{}, no(api.ErrMagic, 0, 0)))
}

// 18.1: a verdict for each account that has code, and for no other, wherever in the list it stands: all patterns of some.
func TestHereAndThere(t *testing.T) {
	five := []sample{
		{"valid", bytesOf(stop()), api.Reject{}},
		{"cut", raw("ef00"), no(api.ErrCut, 0, 2)},
		{"dead", bytesOf(of(typed(0), "fe fe")), no(api.ErrDead, 0, 1)},
		{"within", makes(bytesOf(stuck()), bytesOf(stop())), no(api.ErrBarred, 0, 0, 1)},
		{"valid too", bytesOf(stuck()), api.Reject{}},
	}
	const most = 8
	for size := range most + 1 {
		for pattern := range 1 << size {
			var l []api.Account
			var want []api.Verdict
			for i := range size {
				l = append(l, at(addr(i), uint64(i), nil))
				if x := five[(i+pattern)%len(five)]; pattern>>i&1 == 1 {
					l[i].Code = x.code
					want = append(want, saying(addr(i), x.no))
				}
			}
			for _, workers := range []int{1, 1 + pattern%api.MaxWorkers, api.MaxWorkers} {
				alike(t, fmt.Sprintf("pattern %b of %d by %d", pattern, size, workers), audited(t, pattern, l, workers), want)
			}
		}
	}
}

// 18.1: each byte alone, as code.
func TestEachByte(t *testing.T) {
	var l []api.Account
	var want []api.Verdict
	for i := range 256 {
		l = append(l, at(addr(i), 0, []byte{byte(i)}))
		want = append(want, saying(addr(i), no(api.ErrMagic, 0, 0)))
	}
	want[0xef].Reject = no(api.ErrCut, 0, 1)
	tells(t, "each byte", l, want...)
}

// 18.1: whatever else is wrong with the list, so that it is no world: the verdicts come all the same, in its order.
func TestNoWorlds(t *testing.T) {
	fine, dead := bytesOf(stop()), bytesOf(of(typed(0), "fe fe"))
	isDead := no(api.ErrDead, 0, 1)
	slots := func(l ...uint64) api.Account {
		x := at(b, 1, fine)
		for i := 0; i < len(l); i += 2 {
			x.Slots = append(x.Slots, api.Slot{Key: n(l[i]), Value: n(l[i+1])})
		}
		return x
	}
	great := word.Not(n(0))
	for _, x := range []struct {
		name  string
		l     []api.Account
		wrong api.Errno
		want  []api.Verdict
	}{
		{"an address twice", []api.Account{at(a, 1, fine), at(a, 1, fine)}, api.ErrOrder, []api.Verdict{{Address: a}, {Address: a}}},
		{"an address twice, unlike", []api.Account{at(a, 1, fine), at(a, 2, dead)}, api.ErrOrder, []api.Verdict{{Address: a}, saying(a, isDead)}},
		{"an address twice, unlike, turned", []api.Account{at(a, 2, dead), at(a, 1, fine)}, api.ErrCode, []api.Verdict{saying(a, isDead), {Address: a}}},
		{"an address twice, one without code", []api.Account{at(a, 2, nil), at(a, 1, fine)}, api.ErrOrder, []api.Verdict{{Address: a}}},
		{"an address four times, others between", []api.Account{at(b, 2, fine), at(a, 1, fine), at(b, 2, dead), at(b, 1, nil), at(c, 1, dead), at(b, 2, raw("00"))}, api.ErrOrder,
			[]api.Verdict{{Address: b}, {Address: a}, saying(b, isDead), saying(c, isDead), saying(b, no(api.ErrMagic, 0, 0))}},
		{"falling", []api.Account{at(d, 1, fine), at(c, 1, dead), at(b, 1, nil), at(a, 1, fine)}, api.ErrOrder, []api.Verdict{{Address: d}, saying(c, isDead), {Address: a}}},
		{"the address 0", []api.Account{at(api.Address{}, 1, fine), {}}, api.ErrOrder, []api.Verdict{{}}},
		{"an account that is none", []api.Account{{Address: a}, at(b, 1, fine)}, api.ErrEmpty, []api.Verdict{{Address: b}}},
		{"slots without code", []api.Account{{Address: a, Nonce: 1, Slots: []api.Slot{{Key: n(1), Value: n(1)}}}, at(b, 1, fine)}, api.ErrBare, []api.Verdict{{Address: b}}},
		{"slots that do not rise", []api.Account{slots(2, 1, 1, 1), at(c, 1, dead)}, api.ErrOrder, []api.Verdict{{Address: b}, saying(c, isDead)}},
		{"a slot twice", []api.Account{slots(2, 1, 2, 1)}, api.ErrOrder, []api.Verdict{{Address: b}}},
		{"a slot that is 0", []api.Account{slots(2, 0)}, api.ErrEmpty, []api.Verdict{{Address: b}}},
		{"more than 256 bits", []api.Account{{Address: a, Balance: great}, {Address: b, Balance: great, Code: fine}, at(c, 1, fine)}, api.ErrSum, []api.Verdict{{Address: b}, {Address: c}}},
		{"too long", []api.Account{at(a, 1, data(api.MaxDeploy+1)), at(b, 1, fine)}, api.ErrCode, []api.Verdict{{Address: a}, {Address: b}}},
		{"not valid", []api.Account{at(a, 1, dead), at(b, 1, dead)}, api.ErrCode, []api.Verdict{saying(a, isDead), saying(b, isDead)}},
		{"all of it", []api.Account{at(c, 1, dead), slots(1, 0, 0, 1), {}, {Address: b, Balance: great, Code: dead}, {Address: b, Slots: make([]api.Slot, 2)}}, api.ErrCode,
			[]api.Verdict{saying(c, isDead), {Address: b}, saying(b, isDead)}},
	} {
		if wrong, _ := world.Check(x.l); wrong != x.wrong {
			t.Fatalf("%s: Check says %d", x.name, wrong)
		}
		tells(t, x.name, x.l, x.want...)
	}
}

// 18.1: only the address and the code count, not what else an account has.
func TestWhatElseAnAccountHas(t *testing.T) {
	great := word.Not(n(0))
	for _, x := range samples() {
		for _, y := range []api.Account{
			{},
			{Nonce: math.MaxUint64},
			{Balance: great},
			{Slots: []api.Slot{{Key: n(1), Value: n(1)}}},
			{Address: api.Address{0: 0xff}, Nonce: 1, Balance: n(1), Slots: make([]api.Slot, 3)},
		} {
			y.Code = x.code
			alike(t, x.name, audited(t, x.name, []api.Account{y}, 4), []api.Verdict{saying(y.Address, x.no)})
		}
	}
}

// 18.1: addresses are told whole: each of their bytes, of accounts with one code.
func TestAddresses(t *testing.T) {
	g := draw(183)
	var l []api.Account
	var want []api.Verdict
	code := bytesOf(of(typed(0), "fe fe"))
	for i := range 20 {
		for _, x := range []byte{1, 0x80, 0xff} {
			var one api.Address
			one[i] = x
			l = append(l, at(one, 1, code))
		}
		l = append(l, at(api.Address(g.bytes(20)), 1, code))
	}
	for _, x := range l {
		want = append(want, saying(x.Address, no(api.ErrDead, 0, 1)))
	}
	tells(t, "addresses", l, want...)
}

// 18.1: the code of an account may be of any length: at most as long as a world's, longer, and far longer; what is wrong at its very end is found.
func TestLongCodes(t *testing.T) {
	for _, size := range []int{api.MaxDeploy - 1, api.MaxDeploy, api.MaxDeploy + 1, 2 * api.MaxDeploy, api.MaxInit, api.MaxInit + 1, 65535 + 20} {
		code := data(size)
		if len(code) != size {
			t.Fatal(len(code))
		}
		tells(t, size, []api.Account{at(a, 1, code), at(b, 1, code[:size-1]), at(c, 1, append(bytes.Clone(code), 0))},
			saying(a, api.Reject{}), saying(b, no(api.ErrCut, 0, size-1)), saying(c, no(api.ErrTail, 0, size)))
	}
	longer := long(100)
	spoilt := bytes.Clone(longer)
	spoilt[len(spoilt)-1] = 0x5b
	l := []api.Account{at(a, 1, longer), at(b, 1, spoilt), at(c, 1, longer[:len(longer)-1])}
	want := []api.Verdict{{Address: a}, saying(b, no(api.ErrOpen, 99, 8999)), saying(c, no(api.ErrCut, 0, len(longer)-1))}
	for _, workers := range []int{1, 3} {
		alike(t, len(longer), audited(t, len(longer), l, workers), want)
	}
}
