package world_test

import (
	"math"
	"math/rand/v2"
	"slices"
	"sync"
	"testing"

	"vouch/api"
	"vouch/world"
)

// R1: no call panics, at any argument, on a world in any state.
func TestNoCallPanics(t *testing.T) {
	d := draw(1)
	words := append(keys(), below(2), api.Word{1 << 63, 1 << 63, 1 << 63, 1 << 63})
	numbers := []int{math.MinInt, math.MinInt + 1, -1, 0, 1, 2, 1 << 40, 1 << 62, math.MaxInt - 1, math.MaxInt}
	for range 30 {
		w := made(t, wide()...)
		for range 400 {
			a, b, k, v, i := d.address(), d.address(), pick(d, words), pick(d, words), pick(d, numbers)
			w.Move(a, b, v)
			w.Take(a, v)
			w.Put(b, v)
			w.Raise(a)
			w.Make(b)
			w.Lay(a, pick(d, codes()))
			w.Set(a, k, v)
			w.TSet(b, k, v)
			w.Warm(a)
			w.WarmSlot(b, k)
			w.Tell(drawLog(d))
			w.Owe(i)
			if d.IntN(3) > 0 {
				w.Mark()
			}
			w.Back(i)
			w.Forget(i)
			if d.IntN(50) == 0 {
				w.Begin(a, b, a)
			}
			_, _, _, _, _ = w.Is(a), w.Nonce(a), w.Balance(a), w.Original(a, k), w.TGet(a, v)
		}
		told(w)
	}
}

// R1: Check and New of lists of any kind.
func TestNoListPanics(t *testing.T) {
	d := draw(2)
	for range 3000 {
		l := make([]api.Account, d.IntN(5))
		for i := range l {
			l[i] = anyAccount(d)
		}
		e, at := world.Check(l)
		if e == api.OK && at != 0 || e != api.OK && (at < 0 || at >= len(l)) {
			t.Fatalf("Check: %d, %d", e, at)
		}
		wantCheck(t, "any list", l, e, at)
	}
}

func anyAccount(d drawing) api.Account {
	x := api.Account{Address: d.address(), Nonce: d.Uint64N(2) * d.Uint64(), Balance: d.value()}
	if d.IntN(2) == 0 {
		x.Code = slices.Clone(pick(d, append(goodCodes()[:5], badCodes()[:10]...)))
	}
	if len(x.Code) > 0 && d.IntN(2) == 0 {
		x.Code[d.IntN(len(x.Code))] ^= byte(d.Uint32())
	}
	for range d.IntN(3) {
		x.Slots = append(x.Slots, api.Slot{Key: d.key(), Value: d.value()})
	}
	return x
}

// R4: what only looks changes nothing, and answers the same again, also between other calls.
func TestTheSameAgain(t *testing.T) {
	d := draw(4)
	for range 20 {
		w := made(t, wide()...)
		for _, c := range drawRow(d, 40, upTo(4), 20) {
			c.make(w)
			first := told(w)
			if second := told(w); second != first {
				t.Fatalf("behind %s:\n%s\nthen\n%s", c.name, first, second)
			}
		}
	}
	for range 500 {
		l, other := drawnList(d), drawnList(d)
		if len(l) > 0 {
			pick(d, spoilers()[:3]).spoil(l, d.IntN(len(l)))
		}
		e, at := world.Check(l)
		world.Check(other)
		wantCheck(t, "again", l, e, at)
	}
}

// R4: the same row of calls is answered the same by two worlds of one list: no order of a map is seen.
func TestTwins(t *testing.T) {
	for run := range uint64(30) {
		row := drawRow(draw(run), 200, upTo(5), 40)
		w, twin := made(t, wide()...), made(t, wide()...)
		if got, want := answersOf(w, row), answersOf(twin, row); !slices.Equal(got, want) {
			t.Fatalf("run %d: %v and %v", run, got, want)
		}
		hold(t, "a row", w, twin)
	}
}

// R4: the order in which many accounts and slots came is not seen.
func TestManyInAnyOrder(t *testing.T) {
	tell := func(seed uint64) string {
		order := rand.New(rand.NewPCG(seed, 3)).Perm(3000)
		w := made(t)
		c := codes()[1]
		for _, i := range order {
			a := with(with(api.Address{}, 3, byte(i/100)), 7, 1)
			w.Put(a, n(1))
			w.Lay(a, c)
			w.Set(a, api.Word{uint64(i), 0, uint64(i % 7), 0}, n(uint64(i+1)))
		}
		return accountsText(w.Accounts())
	}
	want := tell(0)
	for seed := range uint64(5) {
		if got := tell(seed + 1); got != want {
			t.Fatal("two orders, two answers")
		}
	}
}

// R4: worlds side by side, each in a goroutine of its own, with one code laid in all of them, answer as one alone does.
func TestSideBySide(t *testing.T) {
	c := codeOf(stop(9), api.Runtime)
	work := func() string {
		w, _, _ := world.New(wide())
		w.Lay(full(3), c)
		answersOf(w, drawRow(draw(88), 400, upTo(5), 60))
		code, _ := w.Code(full(3))
		return told(w) + warmth(w) + codeText(code.Bytes())
	}
	want := work()
	var got [8]string
	var all sync.WaitGroup
	for i := range got {
		all.Go(func() { got[i] = work() })
	}
	all.Wait()
	for i := range got {
		if got[i] != want {
			t.Errorf("worker %d:\n%s\nnot\n%s", i, got[i], want)
		}
	}
}
