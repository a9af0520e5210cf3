package call_test

import (
	"bytes"
	"fmt"
	"slices"
	"testing"

	"vouch/api"
	"vouch/call"
	"vouch/valid"
	"vouch/word"
	"vouch/world"
)

// trio is a message's run by either engine, and the model of it, each over a world of its own.
type trio struct {
	t     testing.TB
	what  string
	runs  []*call.Run
	w     []*world.World
	model *model
	seen  []api.Seen
	fine  bool // worlds are held against each other at every step
}

// newTrio begins them; nil, if the message is refused (by both alike).
func newTrio(t testing.TB, what string, l []api.Account, block api.Block, m api.Message, met map[string]int) *trio {
	t.Helper()
	x := &trio{t: t, what: what}
	var first api.Errno
	for i, engine := range engines {
		w := made(t, l...)
		r, wrong := call.New(w, block, m, engine)
		if i == 0 {
			first = wrong
		}
		if wrong != first || (r == nil) != (wrong != api.OK) {
			t.Fatalf("%s: refused %v by %d, %v by the other", what, wrong, engine, first)
		}
		x.runs, x.w = append(x.runs, r), append(x.w, w)
	}
	if first != api.OK {
		return nil
	}
	x.model = &model{t: t, w: made(t, l...), b: block, m: m, see: x.step, met: met}
	return x
}

// step is told ahead of each step of the model: both runs stand ahead of the same one, and make it.
func (x *trio) step(s api.Seen) {
	x.t.Helper()
	for i, r := range x.runs {
		got, more := r.Next()
		if !more || got != s {
			x.t.Fatalf("%s: step %d by %d is %+v, %v, not %+v", x.what, len(x.seen), engines[i], got, more, s)
		}
	}
	last := len(x.seen) - 1
	if x.fine || last < 0 || x.seen[last].Depth != s.Depth {
		x.worlds()
	}
	for _, r := range x.runs {
		if _, ended := r.Ended(); ended || r.Go(1) != 1 {
			x.t.Fatalf("%s: it has ended at step %d", x.what, len(x.seen))
		}
	}
	x.seen = append(x.seen, s)
}

// worlds holds the three worlds against each other.
func (x *trio) worlds() {
	x.t.Helper()
	want := told(x.model.w)
	for i, w := range x.w {
		if got := told(w); got != want {
			x.t.Fatalf("%s: behind step %d by %d:\n%s\nnot\n%s", x.what, len(x.seen), engines[i], got, want)
		}
	}
}

// through lets all three go to their end, and is the result.
func (x *trio) through() api.Result {
	x.t.Helper()
	want := x.model.run()
	for i, r := range x.runs {
		got, ended := r.Ended()
		if _, more := r.Next(); more || !ended || !alike(got, want) {
			x.t.Fatalf("%s by %d: %+v, %v, not %+v", x.what, engines[i], got, ended, want)
		}
	}
	x.worlds()
	return want
}

// holdings is what 14.13 names: of each account its balance, nonce, code and slots; those of From without its nonce, if that is asked for.
func holdings(w *world.World, raised api.Address, makes bool) string {
	l := w.Accounts()
	for i := range l {
		if makes && l[i].Address == raised {
			l[i].Nonce = 0
		}
	}
	l = slices.DeleteFunc(l, func(x api.Account) bool { return x.Nonce == 0 && x.Balance == n(0) && len(x.Code) == 0 })
	return fmt.Sprintf("%x", l)
}

// codes are those of a world, by their addresses.
func codes(w *world.World) map[api.Address]string {
	out := map[api.Address]string{}
	for _, x := range w.Accounts() {
		if len(x.Code) > 0 {
			out[x.Address] = string(x.Code)
		}
	}
	return out
}

// follows holds what 14.11, 14.13 and 14.14 say of a run that has ended.
func (x *trio) follows(l []api.Account, got api.Result) {
	x.t.Helper()
	m, was, is := x.model.m, made(x.t, l...), x.w[0]
	if got.Steps > m.Gas+1 || got.Left > m.Gas || got.Back > (m.Gas-(got.Left-got.Back))/5 {
		x.t.Fatalf("%s: %+v of %d gas", x.what, got, m.Gas)
	}
	var balances []api.Word
	for _, y := range is.Accounts() {
		balances = append(balances, y.Balance)
	}
	if sum, fits := word.Sum(balances...); !fits || sum != was.Sum() || is.Sum() != sum {
		x.t.Fatalf("%s: the balances are %v together, not %v", x.what, sum, was.Sum())
	}
	if m.Still || got.Status != api.Done {
		if holdings(is, m.From, m.Make) != holdings(was, m.From, m.Make) {
			x.t.Fatalf("%s: %+v, and the world has changed", x.what, got)
		}
		if m.Make && is.Nonce(m.From) != was.Nonce(m.From)+1 {
			x.t.Fatalf("%s: From's nonce", x.what)
		}
	}
	stood := codes(was)
	for at, code := range codes(is) {
		if stood[at] == code {
			continue
		}
		if _, no := valid.Validate([]byte(code), api.Runtime); no.Code != api.OK || len(code) > api.MaxDeploy || stood[at] != "" {
			x.t.Fatalf("%s: the code %x at %x: %+v", x.what, code, at, no)
		}
		x.model.met["a new code"]++
	}
	if wrong, at := world.Check(is.Accounts()); wrong != api.OK {
		x.t.Fatalf("%s: no world: %v at %d", x.what, wrong, at)
	}
	if is.Mark() != 0 {
		x.t.Fatalf("%s: a mark is left", x.what)
	}
	is.Back(0)
}

// pieces lets the run go once more, in drawn pieces.
func (x *trio) pieces(g drawing, l []api.Account, engine int, want api.Result) {
	x.t.Helper()
	w := made(x.t, l...)
	r, _ := call.New(w, x.model.b, x.model.m, engine)
	for sum := 0; ; {
		s, more := r.Next()
		if more != (sum < len(x.seen)) || more && s != x.seen[sum] {
			x.t.Fatalf("%s: in pieces %+v, %v behind %d", x.what, s, more, sum)
		}
		if !more {
			break
		}
		sum += r.Go(g.IntN(pick(g, 3, 50, 2000)))
	}
	if got, ended := r.Ended(); !ended || !alike(got, want) || told(w) != told(x.w[0]) {
		x.t.Fatalf("%s: in pieces %+v", x.what, got)
	}
}

// 14.1 to 14.14, W1, W2, W3, W7, W9, W12: drawn messages over drawn worlds of valid codes that ask for frames and make accounts: both engines and the model step by step side by side, and what follows.
func TestDrawnMessages(t *testing.T) {
	g := draw(1411)
	met := map[string]int{}
	deepest := 0
	for i := range 700 {
		l := g.world(t)
		block, m := g.message()
		x := newTrio(t, fmt.Sprintf("message %d", i), l, block, m, met)
		if x == nil {
			met["refused"]++
			continue
		}
		x.fine = i%20 == 0 && m.Gas < 200000
		got := x.through()
		for _, s := range x.seen {
			deepest = max(deepest, s.Depth)
		}
		x.follows(l, got)
		x.pieces(g, l, pick(g, engines...), got)
		if got.Back > 0 {
			met["back"]++
		}
		if m.Still {
			met["still"]++
		}
	}
	for _, what := range []string{"done", "reverted", "halted", "AskCall", "AskDelegate", "AskStill", "AskMake", "without a frame", "taken", "EndStop, EndReturn", "EndDeploy", "EndRevert", "EndHalt", "refused", "back", "still", "a new code"} {
		if met[what] < 20 {
			t.Errorf("%s: only %d", what, met[what])
		}
	}
	if deepest < 8 {
		t.Errorf("frames no deeper than %d", deepest)
	}
	t.Log(met, deepest)
}

// 14.10 to 14.14: many messages one behind the other over one world, by engines as they come, beside worlds by each engine alone.
func TestDrawnRows(t *testing.T) {
	g := draw(1412)
	for i := range 25 {
		l := g.world(t)
		mixed, plain := made(t, l...), []*world.World{made(t, l...), made(t, l...)}
		for j := range 15 {
			block, m := g.message()
			m.Gas = min(m.Gas, 100000)
			want, wrong := whole(mixed, block, m, pick(g, engines...))
			for k, engine := range engines {
				got, no := whole(plain[k], block, m, engine)
				if no != wrong || !alike(got, want) {
					t.Fatalf("row %d, message %d by %d: %+v, %v, not %+v, %v", i, j, engine, got, no, want, wrong)
				}
				if told(plain[k]) != told(mixed) {
					t.Fatalf("row %d, message %d by %d: the worlds", i, j, engine)
				}
			}
		}
		if mixed.Sum() != made(t, l...).Sum() {
			t.Fatalf("row %d: the balances", i)
		}
	}
}

// whole lets a message run over a world, if it is not refused.
func whole(w *world.World, block api.Block, m api.Message, engine int) (api.Result, api.Errno) {
	r, wrong := call.New(w, block, m, engine)
	if wrong != api.OK {
		return api.Result{}, wrong
	}
	r.Go(many)
	x, _ := r.Ended()
	return x, wrong
}

// 14.11, W3: a run makes at most one step more than its gas, and just so many where each costs 1.
func TestAtMostOneStepMore(t *testing.T) {
	for _, engine := range engines {
		for _, gas := range []uint64{0, 1, 2, 50} {
			got := through(t, made(t, rich, at(b, 0, coded(nopsOf(100), stop))), from(gas), engine)
			wants(t, gas, got, api.Result{Status: api.Halted, Why: api.HaltGas, Steps: gas + 1})
		}
		got := through(t, made(t, rich, at(b, 0, coded(nopsOf(100), stop))), from(100), engine)
		wants(t, 100, got, api.Result{Status: api.Done, Steps: 101})
	}
}

// 14.13, W12: a still message changes nothing but what it forgets: whoever it calls, and however.
func TestStillMessages(t *testing.T) {
	for _, engine := range engines {
		for name, code := range map[string][]byte{
			"reads": coded(load(1), drop, warms(d), stop), "stores": coded(store(1, 1), stop), "tells": coded(tell(1), stop),
			"gives": coded(calls(d, 1), drop, stop), "makes": with(nest(maker()), makes(0, 0, 1), drop, stop), "keeps": coded(tstore(1, 1), stop),
		} {
			for way, asks := range map[string][]byte{"AskCall": calls(c, 0), "AskDelegate": lends(c), "AskStill": stills(c)} {
				l := []api.Account{rich, at(b, 9, coded(asks, answers)), at(c, 9, code)}
				w := made(t, l...)
				m := from(500000)
				m.Still = true
				was := accounts(w)
				got := through(t, w, m, engine)
				if got.Status != api.Done || (got.Output[31] == api.Went) != (name == "reads") || accounts(w) != was || len(got.Logs) != 0 {
					t.Errorf("%s by %s: %+v", name, way, got)
				}
				if w.TGet(c, n(1)) != n(0) || w.TGet(b, n(1)) != n(0) {
					t.Errorf("%s by %s: a transient slot", name, way)
				}
			}
		}
	}
}

// 14.14, W9: what a run lays is what its maker has nested, with data behind, up to MaxDeploy bytes; one that is laid may lay others in its turn.
func TestLaidByWhatWasLaid(t *testing.T) {
	last := fitted(nil, nil, []byte{5}, stop)
	second := with(nest(with(nest(last), deploys)), makes(0, 0, 1), answers)
	first := with(nest(second), deploys)
	for _, engine := range engines {
		w := made(t, rich)
		got := through(t, w, making(first, 3000000), engine)
		one, has := w.Code(got.Made)
		if !has || !bytes.Equal(one.Bytes(), second) {
			t.Fatalf("%+v", got)
		}
		next := through(t, w, api.Message{From: a, To: got.Made, Gas: 3000000}, engine)
		to := call.Made(got.Made, n(1))
		two, has := w.Code(to)
		if next.Status != api.Done || !has || !bytes.Equal(two.Bytes(), last) || !bytes.Equal(next.Output[12:], to[:]) {
			t.Errorf("%+v", next)
		}
		if wrong, _ := world.Check(w.Accounts()); wrong != api.OK {
			t.Error(wrong)
		}
	}
}
