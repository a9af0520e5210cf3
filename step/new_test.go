package step_test

import (
	"math"
	"testing"

	"vouch/api"
	"vouch/container"
	"vouch/step"
	"vouch/world"
)

// refusal is what turns a frame that may be into one that may not, and what is told of it; of two the one with the lesser rank.
type refusal struct {
	name string
	rank int
	turn func(w **world.World, c *api.Container, f *api.Frame)
	told api.Errno
}

func refusals() []refusal {
	ofContainer := func(name string, rank int, told api.Errno, turn func(c *api.Container)) refusal {
		return refusal{name, rank, func(_ **world.World, c *api.Container, _ *api.Frame) { turn(c) }, told}
	}
	ofFrame := func(name string, turn func(f *api.Frame)) refusal {
		return refusal{name, 100, func(_ **world.World, _ *api.Container, f *api.Frame) { turn(f) }, api.ErrArg}
	}
	return []refusal{
		{"no world", 0, func(w **world.World, _ *api.Container, _ *api.Frame) { *w = nil }, api.ErrArg},
		ofContainer("no section", 1, api.ErrCodes, func(c *api.Container) { c.Codes = nil }),
		ofContainer("a type too many", 2, api.ErrTypes, func(c *api.Container) { c.Types = append(c.Types, api.Type{}) }),
		ofContainer("an empty section", 3, api.ErrNone, func(c *api.Container) { c.Codes = [][]byte{{}} }),
		ofContainer("too many nested", 5, api.ErrSubs, func(c *api.Container) { c.Subs = append(c.Subs, make([][]byte, api.MaxSubs+1)...) }),
		ofContainer("an empty one nested", 6, api.ErrNone, func(c *api.Container) { c.Subs = append(c.Subs, []byte{}) }),
		ofContainer("data too long", 7, api.ErrLong, func(c *api.Container) { c.Size = 65536 }),
		ofContainer("data longer than is declared", 8, api.ErrArg, func(c *api.Container) { c.Data = make([]byte, 70000) }),
		ofContainer("a first section that takes", 9, api.ErrType, func(c *api.Container) {
			if len(c.Types) > 0 {
				c.Types[0].In = 1
			}
		}),
		ofFrame("kind 0", func(f *api.Frame) { f.Kind = 0 }),
		ofFrame("kind 3", func(f *api.Frame) { f.Kind = 3 }),
		ofFrame("kind -1", func(f *api.Frame) { f.Kind = -1 }),
		ofFrame("depth -1", func(f *api.Frame) { f.Depth = -1 }),
		ofFrame("depth MaxDepth", func(f *api.Frame) { f.Depth = api.MaxDepth }),
		ofFrame("least depth", func(f *api.Frame) { f.Depth = math.MinInt }),
		ofFrame("greatest depth", func(f *api.Frame) { f.Depth = math.MaxInt }),
		ofFrame("gas above MaxGas", func(f *api.Frame) { f.Gas = api.MaxGas + 1 }),
		ofFrame("greatest gas", func(f *api.Frame) { f.Gas = math.MaxUint64 }),
		ofFrame("too many hashes", func(f *api.Frame) { f.Block.Hashes = make([]api.Hash, api.MaxHashes+1) }),
	}
}

// tried is what New tells of a frame that is turned so.
func tried(t *testing.T, turns ...refusal) (*step.Run, api.Errno) {
	t.Helper()
	x := coded("00")
	w, c, f := x.made(t), x.c, x.f
	c.Types = append([]api.Type(nil), c.Types...)
	for _, r := range turns {
		r.turn(&w, &c, &f)
	}
	return step.New(w, c, f)
}

// 12.1: each refusal alone, and any two at once: the first one is told.
func TestNewRefuses(t *testing.T) {
	for _, a := range refusals() {
		if r, wrong := tried(t, a); r != nil || wrong != a.told {
			t.Errorf("%s: %v, %v, not %v", a.name, r != nil, wrong, a.told)
		}
		for _, b := range refusals() {
			want := a.told
			if b.rank < a.rank {
				want = b.told
			}
			if a.rank == 3 && b.rank == 1 || a.rank == 1 && b.rank == 3 {
				continue // one of them takes the other back
			}
			if r, wrong := tried(t, a, b); r != nil || wrong != want {
				t.Errorf("%s, %s: %v, %v, not %v", a.name, b.name, r != nil, wrong, want)
			}
		}
	}
}

// 12.1: whatever container.Check says of a container is told.
func TestNewAsksCheck(t *testing.T) {
	types := func(l ...api.Type) api.Container {
		return api.Container{Types: l, Codes: make([][]byte, len(l))}
	}
	long := api.Container{Types: []api.Type{{Out: never}}, Codes: [][]byte{make([]byte, api.MaxSection)}}
	longer := api.Container{Types: []api.Type{{Out: never}}, Codes: [][]byte{make([]byte, api.MaxSection+1)}}
	open := api.Container{Types: []api.Type{{Out: never}}, Codes: [][]byte{{0}}, Size: 9}
	for i, c := range []api.Container{{}, types(make([]api.Type, 3)...), types(make([]api.Type, 1025)...), long, longer, open} {
		w := coded("00").made(t)
		r, wrong := step.New(w, c, api.Frame{Kind: api.Runtime})
		if want := container.Check(c); wrong != want || (r == nil) != (want != api.OK) {
			t.Errorf("%d: %v, %v, not %v", i, r != nil, wrong, want)
		}
	}
}

// 12.1: at the limits all is well; what a run tells at first.
func TestNewAtTheLimits(t *testing.T) {
	for _, kind := range []int{api.Runtime, api.Init} {
		for _, depth := range []int{0, 1, api.MaxDepth - 1} {
			for _, gas := range []uint64{0, 1, api.MaxGas} {
				for _, hashes := range []int{0, 1, api.MaxHashes} {
					x := coded("fe").gas(gas).depth(depth).block(api.Block{Hashes: make([]api.Hash, hashes)})
					x.f.Kind = kind
					r, _ := x.begun(t)
					if s := r.Sight(); s != (api.Sight{State: api.Going, Left: gas}) || r.State() != api.Going {
						t.Errorf("%v: %+v", x, s)
					}
					if _, ok := r.Asked(); ok {
						t.Error("it asks at first")
					}
					if _, ok := r.Ended(); ok {
						t.Error("it has ended at first")
					}
					if wrong := r.Give(api.Reply{}); wrong != api.ErrAsked {
						t.Errorf("Give at first: %v", wrong)
					}
				}
			}
		}
	}
}

// 12.1: New changes nothing, and the run is one over w itself: what is done to the world meanwhile is seen, and what it does is seen there.
func TestNewIsOverTheWorldItself(t *testing.T) {
	x := coded("47 5f 5d 00")
	w := x.made(t)
	before := seen(w)
	r := x.over(t, w)
	if after := seen(w); after != before {
		t.Errorf("New has changed the world:\n%s\nnot\n%s", after, before)
	}
	w.Put(self, n(93))
	r.Go(many)
	if got := w.TGet(self, api.Word{}); got != n(100) {
		t.Errorf("SELFBALANCE was %x", got)
	}
}

// 12.1: any container that may be is taken, valid or not; an open one too.
func TestNewTakesWhatIsNotValid(t *testing.T) {
	for _, code := range []string{"0c", "60", "50", "5f", "e4", "e00001", "0000", "e30005"} {
		coded(code).begun(t)
	}
	x := coded("d2 5f 52 6020 5f f3")
	x.c.Data, x.c.Size = []byte{1, 2, 3}, 9
	x.endsSo(t, api.Ending{Kind: api.EndReturn, Output: wordBytes(n(3)), Left: 10000 - 2 - 2 - 6 - 3 - 2})
}
