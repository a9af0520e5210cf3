package exec_test

import (
	"bytes"
	"fmt"
	"math/big"
	"slices"
	"testing"

	"vouch/api"
	"vouch/call"
	"vouch/exec"
	"vouch/valid"
	"vouch/word"
	"vouch/world"
)

// counts is how often what was met.
type counts map[string]int

// enough: each of these was met so often.
func (x counts) enough(t testing.TB, least int, what ...string) {
	t.Helper()
	for _, name := range what {
		if x[name] < least {
			t.Errorf("%s: only %d", name, x[name])
		}
	}
	t.Log(x)
}

// spoiled turns some of what is drawn into what is refused: one thing, or two.
func (g drawing) spoiled(x *ask) {
	for range 1 + g.IntN(2) {
		last := len(x.l) - 1
		i := g.IntN(last)
		switch g.IntN(16) {
		case 0:
			x.l[i], x.l[i+1] = x.l[i+1], x.l[i]
		case 1:
			x.l[i] = api.Account{Address: x.l[i].Address}
		case 2:
			x.l[i].Slots = append(x.l[i].Slots, api.Slot{})
		case 3:
			x.l[i].Code = append(x.l[i].Code, 0)
		case 4:
			x.l[last].Balance = word.Not(n(0))
		case 5:
			x.engine = pick(g, 0, 3)
		case 6:
			x.m.Gas += 1 << 32
		case 7:
			x.b.Hashes = make([]api.Hash, 257)
		case 8:
			x.m.Still, x.m.Make = true, true
		case 9:
			x.m.Value = n(10001)
		default:
			x.m.Make, x.m.Value, x.m.Still = true, n(0), false
			x.m.Init = g.broken(g.container(api.Init, 2, false, b, c, d))
		}
	}
}

// broken is a container in which something is turned: mostly it is none that is valid.
func (g drawing) broken(code []byte) []byte {
	switch i := g.IntN(len(code)); g.IntN(4) {
	case 0:
		return code[:i]
	case 1:
		return append(code, 0)
	default:
		code[i] = byte(g.IntN(256))
	}
	return code
}

// refusal is why the layers below refuse it; nil, if they take it.
func (x ask) refusal() *exec.Refusal {
	w, wrong, i := world.New(x.l)
	if wrong != api.OK {
		return &exec.Refusal{Code: wrong, At: i}
	}
	if _, wrong = call.New(w, x.b, x.m, x.engine); wrong == api.OK {
		return nil
	}
	no := &exec.Refusal{Code: wrong}
	if wrong == api.ErrInit {
		_, no.Reject = valid.Validate(x.m.Init, api.Init)
	}
	return no
}

// bothWays holds Execute against Begin, Go and Ended, and both against the layers below; it is how it went, if it was taken.
func (x ask) bothWays(t testing.TB, g drawing, what string, met counts) (plain, bool) {
	t.Helper()
	if no := x.refusal(); no != nil {
		refused(t, what, x, *no)
		met["refused"]++
		met[fmt.Sprint("refused for ", int(no.Code))]++
		if len(no.Reject.Path) > 0 {
			met["refused within"]++
		}
		return plain{}, false
	}
	want := below(t, worldOf(t, x.l), x.b, x.m, x.engine)
	got, behind := executed(t, x.l, x.b, x.m, x.engine)
	wants(t, what, got, want.result, behind, want.accounts)
	most := pick(g, 1, 3, 50, 2000, many)
	pieces(t, what, begun(t, x.l, x.b, x.m, x.engine), want, func() int { return g.IntN(most+2) - 1 })
	if t.Failed() {
		t.Fatalf("%s: %+v", what, x)
	}
	return want, true
}

// 15.4, W2: drawn messages over drawn worlds, some of them spoiled: Execute tells what Begin, Go and Ended do; and by both engines the same.
func TestDrawnMessages(t *testing.T) {
	g := draw(154)
	met := counts{}
	for i := range 900 {
		x := ask{l: g.world(), engine: api.Checked}
		x.b, x.m = g.message()
		if g.IntN(4) == 0 {
			g.spoiled(&x)
		}
		none := x.engine != api.Checked
		was := copyOf(x.l)
		var first plain
		for _, engine := range engines {
			if !none {
				x.engine = engine
			}
			got, taken := x.bothWays(t, g, fmt.Sprintf("message %d by %d", i, engine), met)
			if !same(x.l, was) {
				t.Fatalf("message %d: the list has changed", i)
			}
			if !taken {
				continue
			}
			if engine == api.Checked {
				first = got
				met.result(x.m, got.result)
			}
			if !alike(got.result, first.result) || !same(got.accounts, first.accounts) || !slices.Equal(got.seen, first.seen) {
				t.Fatalf("message %d: the engines are not alike", i)
			}
		}
	}
	met.enough(t, 20, "refused", "refused within", "done", "reverted", "halted", "back", "still", "logs", "output", "made", "not made")
	met.enough(t, 2, "refused for 1", "refused for 110", "refused for 111", "refused for 113", "refused for 114", "refused for 150", "refused for 151", "refused for 152", "refused for 153", "refused for 154")
}

// result counts how a message went.
func (x counts) result(m api.Message, got api.Result) {
	x[map[int]string{api.Done: "done", api.Reverted: "reverted", api.Halted: "halted", api.Faulted: "faulted"}[got.Status]]++
	for what, is := range map[string]bool{
		"back": got.Back > 0, "still": m.Still, "logs": len(got.Logs) > 0, "output": len(got.Output) > 0,
		"made": got.Made != api.Address{}, "not made": m.Make && got.Status != api.Done,
	} {
		if is {
			x[what]++
		}
	}
}

// unchanged is the accounts of l, but that From's nonce is one more, if an account was to be made: From may be none till then.
func unchanged(l []api.Account, m api.Message) []api.Account {
	l = copyOf(l)
	if !m.Make {
		return l
	}
	i, there := slices.BinarySearchFunc(l, m.From, func(x api.Account, y api.Address) int { return bytes.Compare(x.Address[:], y[:]) })
	if !there {
		l = slices.Insert(l, i, api.Account{Address: m.From})
	}
	l[i].Nonce++
	return l
}

// sum is the balances of accounts together, as a plain number.
func sum(l []api.Account) *big.Int {
	all := new(big.Int)
	for _, x := range l {
		bytes := word.Bytes(x.Balance)
		all.Add(all, new(big.Int).SetBytes(bytes[:]))
	}
	return all
}

// follows holds what 15.5 says of a message over a list, by how it went and by the accounts behind it.
func follows(t testing.TB, what string, l []api.Account, m api.Message, got api.Result, behind []api.Account) {
	t.Helper()
	if got.Steps > m.Gas+1 || got.Left > m.Gas || got.Back > got.Left || got.Back > (m.Gas-(got.Left-got.Back))/5 {
		t.Fatalf("%s: %+v of %d gas", what, got, m.Gas)
	}
	if got.Status != api.Done && got.Status != api.Reverted && got.Status != api.Halted { // W1
		t.Fatalf("%s: %+v", what, got)
	}
	w, wrong, i := world.New(behind)
	if wrong != api.OK {
		t.Fatalf("%s: no world: %v at %d", what, wrong, i)
	}
	if !same(w.Accounts(), behind) || sum(behind).Cmp(sum(l)) != 0 {
		t.Fatalf("%s: the balances are %v together, not %v", what, sum(behind), sum(l))
	}
	if m.Still || got.Status != api.Done {
		if want := unchanged(l, m); !same(behind, want) {
			t.Fatalf("%s: %+v, and the accounts have changed:\n%s\nnot\n%s", what, got, text(behind), text(want))
		}
	}
}

// 15.5, W2, W3, W7, W8, W9, W12: drawn messages one behind the other, each over the accounts that the one ahead left; beside one world that goes on through all of them.
func TestDrawnRows(t *testing.T) {
	g := draw(155)
	met := counts{}
	for i := range 60 {
		l := g.world()
		first, on := l, worldOf(t, l)
		for j := range 15 {
			what := fmt.Sprintf("row %d, message %d", i, j)
			x := ask{l: l, engine: pick(g, engines...)}
			x.b, x.m = g.message()
			was := copyOf(l)
			got, behind, err := exec.Execute(x.l, x.b, x.m, x.engine)
			other, beside, no := exec.Execute(x.l, x.b, x.m, api.Checked+api.Fast-x.engine)
			if !same(l, was) || (err == nil) != (no == nil) || !alike(got, other) || !same(behind, beside) {
				t.Fatalf("%s: %+v, %v; %+v, %v", what, got, err, other, no)
			}
			if err != nil {
				met["refused"]++
				refused(t, what, x, *no.(*exec.Refusal))
				if _, wrong := call.New(on, x.b, x.m, x.engine); wrong != err.(*exec.Refusal).Code {
					t.Fatalf("%s: %v, not %v", what, err, wrong)
				}
				continue
			}
			met.result(x.m, got)
			follows(t, what, l, x.m, got, behind)
			if want := below(t, on, x.b, x.m, x.engine); !alike(got, want.result) || !same(behind, want.accounts) {
				t.Fatalf("%s: %+v, not %+v", what, got, want.result)
			}
			if !same(l, behind) {
				met["changed"]++
			}
			l = behind
		}
		if sum(l).Cmp(sum(first)) != 0 {
			t.Fatalf("row %d: the balances", i)
		}
	}
	met.enough(t, 20, "refused", "done", "reverted", "halted", "back", "still", "logs", "output", "made", "not made", "changed")
}
