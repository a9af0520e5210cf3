package trace_test

import (
	"fmt"
	"math"
	"runtime"
	"slices"
	"sync"
	"testing"

	"vouch/api"
	"vouch/call"
	"vouch/exec"
	"vouch/trace"
	"vouch/word"
)

// counts is how often what was met.
type counts map[string]int

// enough: each of these was met so often.
func (x counts) enough(t testing.TB, least int, what ...string) {
	t.Helper()
	for _, name := range what {
		if x[name] < least {
			t.Errorf("%s: only %d", name, x[name])
		}
	}
	t.Log(x)
}

// steps counts what is met in the steps of a message.
func (x counts) steps(m api.Message, seen []api.Seen, went api.Result) {
	x[map[int]string{api.Done: "done", api.Reverted: "reverted", api.Halted: "halted", api.Faulted: "faulted"}[went.Status]]++
	x[fmt.Sprint("halted for ", went.Why)]++
	deep, self := 0, false
	for i, s := range seen {
		deep = max(deep, s.Depth)
		self = self || i > 0 && s.Depth == seen[i-1].Depth+1 && s.Self == seen[i-1].Self
		if s.Code == 0xec && i+1 < len(seen) && seen[i+1].Depth > s.Depth {
			x["makes within"]++
		}
		if s.Section > 0 && (i == 0 || seen[i-1].Section != s.Section) {
			x["sections"]++
		}
	}
	for what, is := range map[string]bool{"still": m.Still, "makes": m.Make, "no step": len(seen) == 0, "above": deep > 0, "high above": deep > 2, "delegates": self} {
		if is {
			x[what]++
		}
	}
}

// spoiled turns something of what is drawn into what is refused.
func (g drawing) spoiled(x *ask) {
	last := len(x.l) - 1
	i := g.IntN(last)
	switch g.IntN(9) {
	case 0:
		x.l[i], x.l[i+1] = x.l[i+1], x.l[i]
	case 1:
		x.l[i] = api.Account{Address: x.l[i].Address}
	case 2:
		x.l[i].Slots = append(x.l[i].Slots, api.Slot{})
	case 3:
		x.l[i].Code = append(x.l[i].Code, 0)
	case 4:
		x.l[last].Balance = word.Not(n(0))
	case 5:
		x.m.Gas += 1 << 32
	case 6:
		x.b.Hashes = make([]api.Hash, 257)
	case 7:
		x.m.Still, x.m.Make = true, true
	default:
		x.m.Make, x.m.Value, x.m.Still = true, n(0), false
		x.m.Init = g.container(api.Init, 2, false, b, c, d)[g.IntN(2):]
		x.m.Init[g.IntN(len(x.m.Init))] ^= 1 << g.IntN(8)
	}
}

// drawn is a message over a world; some of them are refused.
func (g drawing) drawn() ask {
	x := ask{l: g.world()}
	x.b, x.m = g.message()
	if g.IntN(6) == 0 {
		g.spoiled(&x)
	}
	return x
}

// 17.1, 17.2, 17.4, W2, W14: drawn messages over drawn worlds: a refusal is Begin's; the steps are those of a Start that is taken by hand, and as many as Execute counts, by either engine; so far as a loop goes that is left; and once more.
func TestDrawnMessages(t *testing.T) {
	g := draw(174)
	met := counts{}
	were := runtime.NumGoroutine()
	for i := range 1500 {
		x := g.drawn()
		was := copyOf(x.l)
		what := fmt.Sprint("message ", i)
		if _, no := exec.Begin(x.l, x.b, x.m, api.Checked); no != nil {
			refused(t, what, x, *no.(*exec.Refusal))
			met["refused"]++
			continue
		}
		seq := x.followed(t)
		got := slices.Collect(seq)
		want, _ := x.byHand(t, api.Checked)
		alike(t, what, got, want)
		follows(t, what, x, got)
		for _, engine := range engines {
			went, _, err := exec.Execute(x.l, x.b, x.m, engine)
			if err != nil || went.Steps != uint64(len(got)) {
				t.Fatalf("%s by %d: %d steps, not %d; %v", what, engine, len(got), went.Steps, err)
			}
			if engine == api.Checked {
				met.steps(x.m, got, went)
			}
		}
		if len(got) > 0 {
			many := 1 + g.IntN(len(got))
			alike(t, what+", left", first(seq, many), want[:many])
		}
		alike(t, what+", again", slices.Collect(x.followed(t)), want)
		if text(x.l) != text(was) {
			t.Fatalf("%s: the list has changed", what)
		}
	}
	noneLeft(t, "behind all of them", were)
	met.enough(t, 20, "refused", "done", "reverted", "halted", "still", "makes", "makes within", "sections", "no step", "above", "high above", "delegates", "halted for 1")
}

// 17.4, W3: a loop to the end of a long run: as many steps as Execute counts, each as the one ahead, with less gas.
func TestLongRun(t *testing.T) {
	const gas = 400001
	many := 0
	for x := range (ask{l: list(rich, at(b, 0, coded(again))), m: from(gas)}).followed(t) {
		if x != (api.Seen{Self: b, Code: 0xe0, Left: uint64(gas - 2*many)}) {
			t.Fatalf("step %d: %+v", many, x)
		}
		many++
	}
	if many != gas/2+1 {
		t.Errorf("%d steps", many)
	}
}

// R4: what is told hangs on nothing that goes on beside it: many goroutines range over sequences of their own and over those of all, to the end or not, and others execute the same.
func TestBesideOthers(t *testing.T) {
	g := draw(175)
	type run struct {
		ask
		seq  func(yield func(api.Seen) bool)
		want []api.Seen
	}
	var runs []run
	for _, x := range samples() {
		want, _ := x.byHand(t, api.Checked)
		runs = append(runs, run{x.ask, x.followed(t), want})
	}
	for len(runs) < 60 {
		x := ask{l: g.world()}
		x.b, x.m = g.message()
		if seq, err := trace.Follow(x.l, x.b, x.m); err == nil {
			want, _ := x.byHand(t, api.Checked)
			runs = append(runs, run{x, seq, want})
		}
	}
	were := runtime.NumGoroutine()
	var all sync.WaitGroup
	for worker := range 8 {
		all.Go(func() {
			g := draw(uint64(1000 + worker))
			for range 60 {
				x := pick(g, runs...)
				seq, many := x.seq, 1+g.IntN(len(x.want)+1)
				switch g.IntN(4) {
				case 0:
					own, err := trace.Follow(x.l, x.b, x.m)
					if err != nil {
						t.Error(err)
						return
					}
					seq = own
				case 1:
					exec.Execute(x.l, x.b, x.m, pick(g, engines...))
				}
				if got := first(seq, many); !slices.Equal(got, x.want[:min(many, len(x.want))]) {
					t.Errorf("%d steps are told otherwise beside others", many)
					return
				}
			}
		})
	}
	all.Wait()
	noneLeft(t, "beside others", were)
}

// any is what Follow may be given: any numbers, bytes and lists.
func (g drawing) any() ask {
	numbers := []uint64{0, 1, 50, 100, 101, 60000, api.MaxGas, api.MaxGas + 1, math.MaxUint64}
	words := []api.Word{{}, n(1), n(100), {0, 1}, word.Not(n(0))}
	hashes := func(size int) []api.Hash { return make([]api.Hash, size) }
	m := api.Message{
		From:  pick(g, a, a, b, pick(g, known...), api.Address(g.bytes(20))),
		To:    pick(g, b, b, c, pick(g, known...), api.Address(g.bytes(20))),
		Value: pick(g, n(0), n(0), pick(g, words...)),
		Input: g.bytes(pick(g, 0, 1, 1000)),
		Gas:   min(pick(g, numbers...), pick(g, uint64(60000), 60000, 60000, math.MaxUint64)),
		Price: pick(g, words...),
		Blobs: hashes(pick(g, 0, 1, 700)),
		Still: g.IntN(4) == 0,
		Make:  g.IntN(3) == 0,
		Init:  pick(g, nil, g.bytes(g.IntN(60)), maker(), maker(), maker(store(1, 1)), coded(stop), make([]byte, api.MaxInit+1)),
		Salt:  pick(g, words...),
	}
	block := api.Block{
		Number: pick(g, numbers...), Time: pick(g, numbers...), Coinbase: pick(g, known...), Random: pick(g, words...), Limit: pick(g, numbers...),
		Chain: pick(g, words...), Base: pick(g, words...), BlobBase: pick(g, words...), Hashes: hashes(pick(g, 0, 1, api.MaxHashes, api.MaxHashes, api.MaxHashes+1)),
	}
	return ask{l: g.anyList(), b: block, m: m}
}

// anyList is a list that is mostly a world.
func (g drawing) anyList() []api.Account {
	says := raw("6001 43 03 40 5f 52 5f 49 50 61ffff 49 50 41 50 42 50 43 50 44 50 45 50 46 50 48 50 4a 50 3a 50 5f 35 50 36 50 34 50 6020 5f f3")
	l := list(rich, at(b, 5, with(nest(maker()), makes(0, 1, 1), drop, calls(c, 1), drop, upwards)), at(c, 0, coded(says)), at(call.Made(b, n(1)), 3, nil))
	switch i := g.IntN(len(l)); g.IntN(12) {
	case 0:
		return nil
	case 1:
		l[i].Address = api.Address(g.bytes(20))
	case 2:
		l[i].Code = g.bytes(g.IntN(40))
	case 3:
		l[i].Slots = []api.Slot{{Key: n(g.Uint64N(3)), Value: n(g.Uint64N(3))}, {Key: n(g.Uint64N(3)), Value: n(g.Uint64N(3))}}
	case 4:
		l[i].Balance = pick(g, n(0), word.Not(n(0)), word.Not(n(108)))
	case 5:
		l[i].Nonce = math.MaxUint64
	case 6:
		return l[:i]
	}
	return l
}

// R1, R2, R4: no call panics, whatever it is given; a sequence and an error are never there at once; the same once more answers the same.
func TestAnyArguments(t *testing.T) {
	g := draw(171)
	taken, codes := 0, map[api.Errno]int{}
	for i := range 4000 {
		x := g.any()
		_, no := exec.Begin(x.l, x.b, x.m, api.Checked)
		if no != nil {
			codes[refused(t, i, x, *no.(*exec.Refusal)).Code]++
			continue
		}
		taken++
		want, _ := x.byHand(t, api.Fast)
		alike(t, i, slices.Collect(x.followed(t)), want)
		follows(t, i, x, want)
	}
	for _, e := range []api.Errno{api.ErrArg, api.ErrOrder, api.ErrEmpty, api.ErrBare, api.ErrCode, api.ErrSum, api.ErrBlock, api.ErrFunds, api.ErrStill, api.ErrInit, api.ErrTaken} {
		if codes[e] == 0 {
			t.Errorf("never refused for %d", e)
		}
	}
	if taken < 400 {
		t.Errorf("only %d were taken", taken)
	}
	t.Log(taken, codes)
}
