package fast_test

import (
	"math"
	"testing"

	"vouch/api"
	"vouch/container"
	"vouch/fast"
	"vouch/valid"
	"vouch/world"
)

// refusal is what turns a frame that may be into one that may not, and what Bare tells of it; of two the one with the lesser rank.
type refusal struct {
	name string
	rank int
	turn func(w **world.World, c *api.Container, f *api.Frame)
	told api.Errno
}

// ofFrame are those that lie in the frame alone: New refuses them too.
func ofFrame() []refusal {
	made := func(name string, turn func(f *api.Frame)) refusal {
		return refusal{name, 100, func(_ **world.World, _ *api.Container, f *api.Frame) { turn(f) }, api.ErrArg}
	}
	return []refusal{
		made("kind 0", func(f *api.Frame) { f.Kind = 0 }),
		made("kind 3", func(f *api.Frame) { f.Kind = 3 }),
		made("kind -1", func(f *api.Frame) { f.Kind = -1 }),
		made("depth -1", func(f *api.Frame) { f.Depth = -1 }),
		made("depth MaxDepth", func(f *api.Frame) { f.Depth = api.MaxDepth }),
		made("least depth", func(f *api.Frame) { f.Depth = math.MinInt }),
		made("greatest depth", func(f *api.Frame) { f.Depth = math.MaxInt }),
		made("gas above MaxGas", func(f *api.Frame) { f.Gas = api.MaxGas + 1 }),
		made("greatest gas", func(f *api.Frame) { f.Gas = math.MaxUint64 }),
		made("a hash too many", func(f *api.Frame) { f.Block.Hashes = make([]api.Hash, api.MaxHashes+1) }),
	}
}

func refusals() []refusal {
	ofContainer := func(name string, rank int, told api.Errno, turn func(c *api.Container)) refusal {
		return refusal{name, rank, func(_ **world.World, c *api.Container, _ *api.Frame) { turn(c) }, told}
	}
	return append(ofFrame(),
		refusal{"no world", 0, func(w **world.World, _ *api.Container, _ *api.Frame) { *w = nil }, api.ErrArg},
		ofContainer("no section", 1, api.ErrCodes, func(c *api.Container) { c.Codes = nil }),
		ofContainer("a type too many", 2, api.ErrTypes, func(c *api.Container) { c.Types = append(c.Types, api.Type{}) }),
		ofContainer("an empty section", 3, api.ErrNone, func(c *api.Container) { c.Codes = [][]byte{{}} }),
		ofContainer("too many nested", 5, api.ErrSubs, func(c *api.Container) { c.Subs = append(c.Subs, make([][]byte, api.MaxSubs+1)...) }),
		ofContainer("an empty one nested", 6, api.ErrNone, func(c *api.Container) { c.Subs = append(c.Subs, []byte{}) }),
		ofContainer("data too long", 7, api.ErrLong, func(c *api.Container) { c.Size = 65536 }),
		ofContainer("data longer than is declared", 8, api.ErrArg, func(c *api.Container) { c.Data = make([]byte, 70000) }),
		ofContainer("a first section that takes", 9, api.ErrType, func(c *api.Container) {
			if len(c.Types) > 0 {
				c.Types[0].In = 1
			}
		}),
	)
}

// 13.1: each refusal of New alone, and any two at once: ErrArg.
func TestNewRefuses(t *testing.T) {
	x := coded("00")
	w, code := x.made(t), x.judged(t)
	frames := ofFrame()
	frames = append(frames, refusal{"another kind", 100, func(_ **world.World, _ *api.Container, f *api.Frame) { f.Kind = api.Init }, api.ErrArg})
	for _, a := range frames {
		f := x.f
		a.turn(nil, nil, &f)
		if r, wrong := fast.New(w, code, f); r != nil || wrong != api.ErrArg {
			t.Errorf("%s: %v, %v", a.name, r != nil, wrong)
		}
		if r, wrong := fast.New(nil, code, f); r != nil || wrong != api.ErrArg {
			t.Errorf("%s, no world: %v, %v", a.name, r != nil, wrong)
		}
		if r, wrong := fast.New(w, nil, f); r != nil || wrong != api.ErrArg {
			t.Errorf("%s, no code: %v, %v", a.name, r != nil, wrong)
		}
		for _, b := range frames {
			g := f
			b.turn(nil, nil, &g)
			if r, wrong := fast.New(w, code, g); r != nil || wrong != api.ErrArg {
				t.Errorf("%s, %s: %v, %v", a.name, b.name, r != nil, wrong)
			}
		}
	}
	for i, r := range []func() (*fast.Run, api.Errno){
		func() (*fast.Run, api.Errno) { return fast.New(nil, code, x.f) },
		func() (*fast.Run, api.Errno) { return fast.New(w, nil, x.f) },
		func() (*fast.Run, api.Errno) { return fast.New(nil, nil, x.f) },
		func() (*fast.Run, api.Errno) { return fast.New(w, coded("fe").init().judged(t), x.f) },
	} {
		if r, wrong := r(); r != nil || wrong != api.ErrArg {
			t.Errorf("%d: %v, %v", i, r != nil, wrong)
		}
	}
}

// first: what a run tells at first, with so much gas.
func first(t *testing.T, r machine, gas uint64) {
	t.Helper()
	if s := r.Sight(); s != (api.Sight{State: api.Going, Left: gas}) || r.State() != api.Going {
		t.Errorf("at first: %+v, %d", s, r.State())
	}
	if x, ok := r.Asked(); ok || !alikeAsks(x, api.Ask{}) {
		t.Errorf("it asks at first: %+v", x)
	}
	if x, ok := r.Ended(); ok || !alikeEnds(x, api.Ending{}) {
		t.Errorf("it has ended at first: %+v", x)
	}
	if wrong := r.Give(api.Reply{}); wrong != api.ErrAsked {
		t.Errorf("Give at first: %v", wrong)
	}
	for _, steps := range []int{0, -1, math.MinInt} {
		if made := r.Go(steps); made != 0 {
			t.Errorf("Go(%d): %d", steps, made)
		}
	}
}

// 13.1, 13.7: at the limits all is well; what a run tells at first.
func TestBegunAtTheLimits(t *testing.T) {
	for _, kind := range []int{api.Runtime, api.Init} {
		for _, depth := range []int{0, 1, api.MaxDepth - 1} {
			for _, gas := range []uint64{0, 1, api.MaxGas} {
				for _, hashes := range []int{0, 1, api.MaxHashes} {
					x := coded("fe").gas(gas).depth(depth).block(api.Block{Hashes: make([]api.Hash, hashes)})
					x.f.Kind = kind
					for _, s := range []side{x.fast(t), x.bare(t)} {
						first(t, s, gas)
						s.ends(t, x, 1, api.Place{}, halted(api.HaltInvalid))
					}
				}
			}
		}
	}
}

// bared is what Bare tells of a frame that is turned so.
func bared(t *testing.T, turns ...refusal) (*fast.Run, api.Errno) {
	t.Helper()
	x := coded("00")
	w, c, f := x.made(t), x.c, x.f
	c.Types = append([]api.Type(nil), c.Types...)
	for _, r := range turns {
		r.turn(&w, &c, &f)
	}
	return fast.Bare(w, c, f)
}

// 13.7: each refusal of Bare alone, and any two at once: the first one is told.
func TestBareRefuses(t *testing.T) {
	for _, a := range refusals() {
		if r, wrong := bared(t, a); r != nil || wrong != a.told {
			t.Errorf("%s: %v, %v, not %v", a.name, r != nil, wrong, a.told)
		}
		for _, b := range refusals() {
			want := a.told
			if b.rank < a.rank {
				want = b.told
			}
			if a.rank == 3 && b.rank == 1 || a.rank == 1 && b.rank == 3 {
				continue // one of them takes the other back
			}
			if r, wrong := bared(t, a, b); r != nil || wrong != want {
				t.Errorf("%s, %s: %v, %v, not %v", a.name, b.name, r != nil, wrong, want)
			}
		}
	}
}

// 13.7: whatever container.Check says of a container is told.
func TestBareAsksCheck(t *testing.T) {
	types := func(l ...api.Type) api.Container {
		return api.Container{Types: l, Codes: make([][]byte, len(l))}
	}
	long := api.Container{Types: []api.Type{{Out: never}}, Codes: [][]byte{make([]byte, api.MaxSection)}}
	longer := api.Container{Types: []api.Type{{Out: never}}, Codes: [][]byte{make([]byte, api.MaxSection+1)}}
	open := api.Container{Types: []api.Type{{Out: never}}, Codes: [][]byte{{0}}, Size: 9}
	for i, c := range []api.Container{{}, types(make([]api.Type, 3)...), types(make([]api.Type, 1025)...), long, longer, open} {
		r, wrong := fast.Bare(coded("00").made(t), c, api.Frame{Kind: api.Runtime})
		if want := container.Check(c); wrong != want || (r == nil) != (want != api.OK) {
			t.Errorf("%d: %v, %v, not %v", i, r != nil, wrong, want)
		}
	}
}

// 13.1, 13.7: to begin changes nothing, and the run is one over w itself: what is done to the world meanwhile is seen, and what it does is seen there.
func TestBegunOverTheWorldItself(t *testing.T) {
	x := coded("47 5f 5d 00").fit()
	for _, s := range []side{x.fast(t), x.bare(t)} {
		if wrong := alikeWorlds(s.w, x.made(t), keys()); wrong != "" {
			t.Errorf("what is begun has changed the world: %s", wrong)
		}
		s.w.Put(self, n(93))
		s.Go(many)
		if got := s.w.TGet(self, api.Word{}); got != n(100) {
			t.Errorf("SELFBALANCE was %x", got)
		}
	}
}

// 13.1: code that was made by Sub and Lay is code too.
func TestNewOfMadeCode(t *testing.T) {
	inner := bytesOf(api.Container{Types: []api.Type{{Out: never, Most: 2}}, Codes: [][]byte{raw("d2 5f 52 6020 5f f3")}, Size: 2})
	outer := of(raw("5f 5f ee00")).init().subs(inner).fit()
	middle := of(raw("5f 5f 5f 5f ec00 00")).subs(bytesOf(outer.c)).fit()
	sub, wrong := middle.judged(t).Sub(0)
	if wrong != api.OK {
		t.Fatal(wrong)
	}
	laid, wrong := sub.Lay(0, []byte{1, 2, 3})
	if wrong != api.OK {
		t.Fatal(wrong)
	}
	for kind, code := range map[int]*valid.Code{api.Init: sub, api.Runtime: laid} {
		w := coded("00").made(t)
		r, wrong := fast.New(w, code, api.Frame{Kind: kind, Gas: 10000})
		if wrong != api.OK {
			t.Fatal(wrong)
		}
		if kind == api.Runtime {
			side{r, w}.ends(t, "laid", 6, api.Place{At: 6}, api.Ending{Kind: api.EndReturn, Output: wordBytes(n(3)), Left: 10000 - 2 - 2 - 6 - 3 - 2})
		} else {
			side{r, w}.ends(t, "sub", 3, api.Place{At: 2}, halted(api.HaltDeploy))
		}
		if r, wrong := fast.New(w, code, api.Frame{Kind: 3 - kind}); r != nil || wrong != api.ErrArg {
			t.Errorf("of the other kind: %v", wrong)
		}
	}
}
