package audit_test

import (
	"fmt"
	"runtime"
	"slices"
	"sync"
	"testing"

	"vouch/api"
	"vouch/audit"
)

// 18.2: fewer accounts than workers, as many, and more, many times over: the same, each time.
func TestFewerAndMore(t *testing.T) {
	g := draw(184)
	all := samples()
	all = slices.DeleteFunc(all, func(x sample) bool { return len(x.code) > 500 })
	for size := range 40 {
		for _, bare := range []int{0, 4} {
			few := make([]sample, size)
			for i := range few {
				few[i] = pick(g, all...)
			}
			l, want := g.shuffled(few, bare)
			for range 3 {
				tells(t, fmt.Sprint(size, " with code"), l, want...)
			}
		}
	}
}

// 18.2: some take long and some do not, wherever they stand: which worker is done first is not to be seen.
func TestUneven(t *testing.T) {
	g := draw(185)
	slow := sample{"slow", long(1), api.Reject{}}
	late := sample{"late", join(slow.code[:len(slow.code)-1], raw("5b")), no(api.ErrOpen, 0, 8999)}
	fast := []sample{{"fast", raw("ef"), no(api.ErrCut, 0, 1)}, {"fast too", bytesOf(stop()), api.Reject{}}, {"and this", raw("60 00 56"), no(api.ErrMagic, 0, 0)}}
	lay := func(order string) ([]api.Account, []api.Verdict) {
		var l []api.Account
		var want []api.Verdict
		for i, x := range order {
			y := map[rune]sample{'s': slow, 'l': late, 'f': pick(g, fast...), '.': {}}[x]
			l = append(l, at(addr(i), 1, y.code))
			if x != '.' {
				want = append(want, saying(addr(i), y.no))
			}
		}
		return l, want
	}
	for _, order := range []string{"sf", "fs", "sfffffffffffffff", "fffffffffffffffs", "sfsfsfsfsf", "ssssfffff", "ffffssss", "fffsfffffffffffff", "sl.lsff..f", "..s.f", ".f.f.s.."} {
		l, want := lay(order)
		tells(t, order, l, want...)
	}
}

// 18.2: however many of them the machine lets run at one time.
func TestAtOneTime(t *testing.T) {
	was := runtime.GOMAXPROCS(0)
	defer runtime.GOMAXPROCS(was)
	g := draw(186)
	l, want := g.shuffled(samples(), 2)
	for _, many := range []int{1, 2, 3, 2 * was} {
		runtime.GOMAXPROCS(many)
		for _, workers := range []int{1, 2, 7, api.MaxWorkers} {
			alike(t, fmt.Sprint(many, workers), audited(t, many, l, workers), want)
		}
	}
}

// 18.2: a long list of short codes, so that the workers are often at the counter at one time.
func TestLongList(t *testing.T) {
	codes := []sample{{"", raw("ef"), no(api.ErrCut, 0, 1)}, {"", raw("ef0001"), no(api.ErrCut, 0, 3)}, {"", raw("00"), no(api.ErrMagic, 0, 0)}, {}}
	var l []api.Account
	var want []api.Verdict
	for i := range 60000 {
		x := codes[(i*i/3+i/7)%len(codes)]
		l = append(l, at(addr(i), uint64(i), x.code))
		if len(x.code) > 0 {
			want = append(want, saying(addr(i), x.no))
		}
	}
	tells(t, "a long list", l, want...)
}

// 18.2, R4: when Audit has answered none of its workers works any more, and soon none is there; nor where it is refused, or there is nothing to judge.
func TestNoneIsLeft(t *testing.T) {
	g := draw(187)
	l, want := g.shuffled(samples(), 2)
	slow := []api.Account{at(a, 1, raw("ef")), at(b, 1, long(12)), at(c, 1, long(2))}
	were := runtime.NumGoroutine()
	for workers := 1; workers <= api.MaxWorkers; workers++ {
		for range 5 {
			alike(t, workers, audited(t, workers, l, workers), want)
			if atWork() {
				t.Fatalf("by %d: it still works", workers)
			}
			noneLeft(t, workers, were)
		}
		if audited(t, workers, slow, workers); atWork() {
			t.Fatalf("by %d: it still works at what is slow", workers)
		}
		audited(t, workers, nil, workers)
		audited(t, workers, make([]api.Account, 5), workers)
		audit.Audit(l, workers+api.MaxWorkers)
		audit.Audit(l, 1-workers)
		noneLeft(t, workers, were)
	}
}

// 18.2, R4: many audits beside one another, of one list and of others, refused ones too.
func TestBesideOneAnother(t *testing.T) {
	type asked struct {
		l    []api.Account
		want []api.Verdict
	}
	g := draw(188)
	small := slices.DeleteFunc(samples(), func(x sample) bool { return len(x.code) > 5000 })
	lists := []asked{{}, {l: make([]api.Account, 3)}}
	for range 8 {
		l, want := g.shuffled(small[g.IntN(len(small)):], g.IntN(8))
		lists = append(lists, asked{l, want})
	}
	were := runtime.NumGoroutine()
	var all sync.WaitGroup
	for worker := range 8 {
		all.Go(func() {
			g := draw(uint64(2000 + worker))
			for range 60 {
				x, workers := pick(g, lists...), g.IntN(api.MaxWorkers+3)
				got, wrong := audit.Audit(x.l, workers)
				want, no := x.want, api.OK
				if workers < 1 || workers > api.MaxWorkers {
					want, no = nil, api.ErrWorkers
				}
				if wrong != no || !slices.EqualFunc(got, want, same) {
					t.Errorf("by %d: told otherwise beside others: %d", workers, wrong)
					return
				}
			}
		})
	}
	all.Wait()
	noneLeft(t, "beside one another", were)
}
