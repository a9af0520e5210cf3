package audit_test

import (
	"fmt"
	"slices"
	"testing"

	"vouch/api"
	"vouch/exec"
	"vouch/world"
)

// allOK: a verdict for each account that has code, and each is OK.
func allOK(t testing.TB, what any, l []api.Account, workers int) []api.Verdict {
	t.Helper()
	var want []api.Verdict
	for _, x := range l {
		if len(x.Code) > 0 {
			want = append(want, api.Verdict{Address: x.Address})
		}
	}
	alike(t, what, audited(t, what, l, workers), want)
	return want
}

// 18.3: of worlds all verdicts are OK.
func TestWorlds(t *testing.T) {
	g := draw(189)
	for i := range 400 {
		l := g.world()
		if wrong, at := world.Check(l); wrong != api.OK {
			t.Fatal(i, wrong, at)
		}
		for _, workers := range []int{1, 1 + g.IntN(api.MaxWorkers)} {
			if many := len(allOK(t, i, l, workers)); many < 3 {
				t.Fatalf("%d: only %d verdicts", i, many)
			}
		}
	}
	for i, x := range good() {
		if len(x.code) <= api.MaxDeploy {
			l := []api.Account{at(a, 3, nil), at(b, 0, x.code)}
			if wrong, _ := world.Check(l); wrong != api.OK {
				t.Fatalf("%s: %d", x.name, wrong)
			}
			allOK(t, i, l, 2)
		}
	}
}

// 18.3, W9, W14: so they are of the accounts behind every Execute, message after message, by either engine; those that were made in it too.
func TestBehindMessages(t *testing.T) {
	g := draw(190)
	made, within, refused := 0, 0, 0
	for i := range 250 {
		l := g.world()
		for j := range 4 {
			block, m := g.message()
			went, behind, err := exec.Execute(l, block, m, pick(g, engines...))
			if err != nil {
				refused++
				continue
			}
			what := fmt.Sprint("world ", i, ", message ", j)
			allOK(t, what, behind, 1+g.IntN(api.MaxWorkers))
			for _, x := range behind {
				was := slices.IndexFunc(l, func(y api.Account) bool { return y.Address == x.Address && len(y.Code) > 0 })
				if was < 0 && len(x.Code) > 0 && x.Address == went.Made {
					made++
				} else if was < 0 && len(x.Code) > 0 {
					within++
				}
			}
			if l = behind; g.IntN(5) == 0 { // the next one goes over a world in which something else stands
				l = g.world()
			}
		}
	}
	if made < 20 || within < 20 {
		t.Errorf("only %d were made by messages, %d within them", made, within)
	}
	t.Log(made, within, refused)
}

// noWorld: no list that begins with these accounts is a world, whatever stands behind them.
func noWorld(t testing.TB, g drawing, what any, l []api.Account) {
	t.Helper()
	last := len(l) - 1
	next := l[last].Address
	next[19]++
	for i, more := range [][]api.Account{nil, {at(next, 1, nil)}, {at(next, 1, bytesOf(stop()))}, {at(next, 0, nil)}, {l[last]}, g.world(), {{}, {}}} {
		longer := slices.Concat(l, more)
		wrong, place := world.Check(longer)
		if wrong == api.OK || place > last {
			t.Fatalf("%v, with more %d: Check says %d at %d of %d", what, i, wrong, place, last)
		}
		if x, no, _ := world.New(longer); x != nil || no != wrong {
			t.Fatalf("%v, with more %d: New says %d", what, i, no)
		}
	}
}

// firstNot is the place in l of the account whose verdict is the first that is not OK; so many, if there is none.
func firstNot(l []api.Account, verdicts []api.Verdict) int {
	for i, x := range l {
		if len(x.Code) == 0 {
			continue
		}
		if verdicts[0].Reject.Code != api.OK {
			return i
		}
		verdicts = verdicts[1:]
	}
	return len(l)
}

// 18.3: where a verdict is not OK, the accounts up to the first such one are no world, with any behind them neither; and it is for that code that they are none, where the ones ahead are a world.
func TestNoWorldBehind(t *testing.T) {
	g := draw(191)
	all := samples()
	for i := range 300 {
		l := g.world()
		for range 1 + g.IntN(2) {
			x := &l[g.IntN(len(l))]
			x.Code = pick(g, all...).code
			if x.Nonce == 0 {
				x.Nonce = 1
			}
		}
		first := firstNot(l, audited(t, i, l, 1+g.IntN(api.MaxWorkers)))
		if first == len(l) {
			continue
		}
		noWorld(t, g, i, l[:first+1])
		wrong, place := world.Check(l[:first+1])
		if ahead, _ := world.Check(l[:first]); ahead == api.OK && (wrong != api.ErrCode || place != first) {
			t.Fatalf("%d: Check says %d at %d, not %d", i, wrong, place, first)
		}
	}
	for _, x := range slices.Concat(misread(), broken(), nested()) {
		l := []api.Account{at(a, 1, bytesOf(stop())), at(b, 1, x.code)}
		if first := firstNot(l, audited(t, x.name, l, 2)); first != 1 {
			t.Fatalf("%s: %d", x.name, first)
		}
		noWorld(t, g, x.name, l)
	}
}
