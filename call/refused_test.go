package call_test

import (
	"math"
	"slices"
	"testing"

	"vouch/api"
	"vouch/call"
	"vouch/world"
)

// ask is what New is asked with.
type ask struct {
	l      []api.Account
	none   bool // no world
	b      api.Block
	m      api.Message
	engine int
}

// good is one that is taken: A, B with code, and a message with a use for all.
func good(engine int) *ask {
	m := from(5000)
	m.Init, m.Input = maker(), []byte{1, 2}
	return &ask{l: []api.Account{rich, at(b, 3, coded(stop))}, m: m, engine: engine}
}

// world is its world, in which something was done already: nothing of it may change.
func (x *ask) world(t testing.TB) *world.World {
	t.Helper()
	if x.none {
		return nil
	}
	w := made(t, x.l...)
	w.Begin(c, d)
	w.Mark()
	w.Set(b, n(1), n(5))
	w.TSet(b, n(2), n(6))
	w.WarmSlot(b, n(3))
	w.Tell(api.Log{Address: b, Topics: []api.Word{n(9)}})
	w.Owe(70)
	w.Mark()
	return w
}

// taken: an account stands where one is to be made.
func (x *ask) taken(l api.Account) {
	l.Address = call.Made(a, n(0))
	i := slices.IndexFunc(x.l, func(y api.Account) bool { return y.Address == l.Address })
	if i < 0 {
		x.l, i = append(x.l, l), len(x.l)
	}
	x.l[i] = l
	x.m.Make = true
}

// long is a container to create with, so many bytes long.
func long(size int) []byte {
	short := len(fitted(nil, nest(coded(stop)), nil, deploys))
	return fitted(nil, nest(coded(stop)), make([]byte, size-short), deploys)
}

// spoil is one thing for which a message is refused.
type spoil struct {
	name string
	want api.Errno
	turn func(x *ask)
}

// spoils are all of them, in their order.
func spoils() []spoil {
	return []spoil{
		{"no world", api.ErrArg, func(x *ask) { x.none = true }},
		{"engine 0", api.ErrArg, func(x *ask) { x.engine = 0 }},
		{"engine 3", api.ErrArg, func(x *ask) { x.engine = 3 }},
		{"engine -1", api.ErrArg, func(x *ask) { x.engine = -1 }},
		{"the least engine", api.ErrArg, func(x *ask) { x.engine = math.MinInt }},
		{"gas", api.ErrArg, func(x *ask) { x.m.Gas = api.MaxGas + 1 }},
		{"all gas", api.ErrArg, func(x *ask) { x.m.Gas = math.MaxUint64 }},
		{"hashes", api.ErrBlock, func(x *ask) { x.b.Hashes = make([]api.Hash, api.MaxHashes+1) }},
		{"still, a value", api.ErrStill, func(x *ask) { x.m.Still, x.m.Value = true, n(1) }},
		{"still, a great value", api.ErrStill, func(x *ask) { x.m.Still, x.m.Value = true, api.Word{3: 1 << 63} }},
		{"still, an account", api.ErrStill, func(x *ask) { x.m.Still, x.m.Make = true, true }},
		{"funds", api.ErrFunds, func(x *ask) { x.m.Value = n(101) }},
		{"great funds", api.ErrFunds, func(x *ask) { x.m.Value = api.Word{0, 1} }},
		{"no init", api.ErrInit, func(x *ask) { x.m.Make, x.m.Init = true, nil }},
		{"a runtime init", api.ErrInit, func(x *ask) { x.m.Make, x.m.Init = true, coded(stop) }},
		{"a long init", api.ErrInit, func(x *ask) { x.m.Make, x.m.Init = true, long(api.MaxInit+1) }},
		{"an open init", api.ErrInit, func(x *ask) { x.m.Make, x.m.Init = true, long(600)[:599] }},
		{"nonce", api.ErrTaken, func(x *ask) { x.l[0].Nonce, x.m.Make = math.MaxUint64, true }},
		{"taken by a nonce", api.ErrTaken, func(x *ask) { x.taken(api.Account{Nonce: 1}) }},
		{"taken by a great nonce", api.ErrTaken, func(x *ask) { x.taken(api.Account{Nonce: math.MaxUint64}) }},
		{"taken by a code", api.ErrTaken, func(x *ask) { x.taken(api.Account{Code: coded(stop)}) }},
	}
}

// refused: New refuses it so, and the world is as it was.
func (x *ask) refused(t *testing.T, name string, want api.Errno) {
	t.Helper()
	w := x.world(t)
	var was string
	if w != nil {
		was = told(w)
	}
	r, wrong := call.New(w, x.b, x.m, x.engine)
	if wrong != want || r != nil {
		t.Errorf("%s: %v, %v, not %v", name, r != nil, wrong, want)
	}
	if w != nil && told(w) != was {
		t.Errorf("%s: the world has changed:\n%s\n%s", name, was, told(w))
	}
}

// 14.2, R2, W8: each refusal alone and each two at once: the first one is told, and nothing has changed.
func TestRefused(t *testing.T) {
	all := spoils()
	for _, engine := range engines {
		for i, first := range all {
			x := good(engine)
			first.turn(x)
			x.refused(t, first.name, first.want)
			for _, second := range all[i+1:] {
				x := good(engine)
				second.turn(x)
				first.turn(x)
				x.refused(t, first.name+" and "+second.name, first.want)
			}
		}
	}
}

// 14.2: at each limit all is well.
func TestAtTheLimits(t *testing.T) {
	for name, turn := range map[string]func(x *ask){
		"nothing":         func(x *ask) {},
		"gas":             func(x *ask) { x.m.Gas = api.MaxGas },
		"no gas":          func(x *ask) { x.m.Gas = 0 },
		"hashes":          func(x *ask) { x.b.Hashes = make([]api.Hash, api.MaxHashes) },
		"still":           func(x *ask) { x.m.Still = true },
		"value":           func(x *ask) { x.m.Value = n(100) },
		"a long init":     func(x *ask) { x.m.Make, x.m.Init = true, long(api.MaxInit) },
		"nonce":           func(x *ask) { x.l[0].Nonce, x.m.Make = math.MaxUint64-1, true },
		"a balance there": func(x *ask) { x.taken(api.Account{Balance: n(7)}) },
		"value and make":  func(x *ask) { x.m.Value, x.m.Make = n(100), true },
		"from nobody":     func(x *ask) { x.m.From = e },
		"nobody makes":    func(x *ask) { x.m.From, x.m.Make = e, true },
		"to from":         func(x *ask) { x.m.To, x.m.Value = a, n(100) },
		"to a coder":      func(x *ask) { x.m.From, x.m.Value = b, n(3) },
	} {
		for _, engine := range engines {
			x := good(engine)
			turn(x)
			if r, wrong := call.New(x.world(t), x.b, x.m, x.engine); wrong != api.OK || r == nil {
				t.Errorf("%s: %v", name, wrong)
			}
		}
	}
}

// 14.2: the message of whose maker the nonce is 2^64 - 2 makes its account; the next one is refused.
func TestTheLastNonce(t *testing.T) {
	for _, engine := range engines {
		x := rich
		x.Nonce = math.MaxUint64 - 1
		w := made(t, x)
		if got := through(t, w, making(maker(), 50000), engine); got.Status != api.Done || w.Nonce(a) != math.MaxUint64 {
			t.Errorf("%+v, nonce %d", got, w.Nonce(a))
		}
		m := making(maker(), 50000)
		m.Salt = n(1)
		was := told(w)
		if _, wrong := call.New(w, api.Block{}, m, engine); wrong != api.ErrTaken || told(w) != was {
			t.Errorf("%v", wrong)
		}
		m = from(5) // what makes nothing is not asked for a nonce
		m.Salt = n(1)
		if got := through(t, w, m, engine); got.Status != api.Done {
			t.Errorf("%+v", got)
		}
	}
}

// 14.3: what a message has no use for is not looked at.
func TestNotLookedAt(t *testing.T) {
	for _, engine := range engines {
		x := rich
		w := made(t, x, api.Account{Address: call.Made(a, n(0)), Nonce: 1}, at(b, 0, coded(stop)))
		m := from(9)
		m.Init = make([]byte, api.MaxInit+1)
		wants(t, "To with a bad Init", through(t, w, m, engine), api.Result{Status: api.Done, Left: 9, Steps: 1})
		m = making(maker(), 50000)
		m.To, m.Salt = b, n(1)
		if got := through(t, w, m, engine); got.Status != api.Done || got.Made != call.Made(a, n(1)) {
			t.Errorf("%+v", got)
		}
		if warm(w, b) {
			t.Error("To of a message that makes an account is warm")
		}
	}
}
