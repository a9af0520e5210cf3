package fast_test

import (
	"go/parser"
	"go/token"
	"math"
	"path/filepath"
	"slices"
	"strings"
	"testing"

	"vouch/api"
	"vouch/container"
	"vouch/fast"
	"vouch/world"
)

// reaches gathers the packages of the program that a package imports, near or far.
func reaches(t *testing.T, name string, seen map[string]bool) {
	t.Helper()
	files, _ := filepath.Glob(filepath.Join("..", name, "*.go"))
	if len(files) == 0 {
		t.Fatalf("no package %s", name)
	}
	for _, file := range files {
		if strings.HasSuffix(file, "_test.go") {
			continue
		}
		read, wrong := parser.ParseFile(token.NewFileSet(), file, nil, parser.ImportsOnly)
		if wrong != nil {
			t.Fatal(wrong)
		}
		for _, i := range read.Imports {
			if of, ours := strings.CutPrefix(strings.Trim(i.Path.Value, `"`), "vouch/"); ours && !seen[of] {
				seen[of] = true
				reaches(t, of, seen)
			}
		}
	}
}

// 13.3: package fast does not call package step, near or far, nor what reads instructions ahead (6, 7) by itself: it calls the layers that its chapter names.
func TestWhatIsNotCalled(t *testing.T) {
	seen := map[string]bool{}
	reaches(t, "fast", seen)
	if seen["step"] || !seen["mach"] {
		t.Errorf("%v", seen)
	}
	files, _ := filepath.Glob("*.go")
	named := []string{"api", "word", "sponge", "op", "container", "valid", "mach", "gas", "world"}
	for _, file := range files {
		if strings.HasSuffix(file, "_test.go") {
			continue
		}
		read, wrong := parser.ParseFile(token.NewFileSet(), file, nil, parser.ImportsOnly)
		if wrong != nil {
			t.Fatal(wrong)
		}
		for _, i := range read.Imports {
			if of, ours := strings.CutPrefix(strings.Trim(i.Path.Value, `"`), "vouch/"); ours && !slices.Contains(named, of) {
				t.Errorf("%s imports %s", file, of)
			}
		}
	}
}

// anyContainer is one of which nothing is sure, not even that it may be.
func (d drawing) anyContainer() api.Container {
	var c api.Container
	if d.IntN(3) > 0 {
		c = d.container(pick(d, []int{api.Runtime, api.Init}), true, true)
	}
	for range d.IntN(3) {
		c.Codes = append(c.Codes, d.bytes(d.IntN(60)))
		c.Types = append(c.Types, api.Type{In: d.IntN(4), Out: d.IntN(129), Most: d.IntN(1024)})
	}
	for _, b := range c.Codes {
		for range d.IntN(3) {
			if len(b) > 0 {
				b[d.IntN(len(b))] = byte(d.Uint32())
			}
		}
	}
	for range d.IntN(3) {
		c.Subs = append(c.Subs, d.bytes(d.IntN(30)))
	}
	switch d.IntN(12) {
	case 0:
		c.Size += d.IntN(5) - 2
	case 1:
		c.Size = pick(d, []int{math.MinInt, math.MaxInt, -1, 65535, 65536})
	case 2:
		c.Types = append(c.Types, api.Type{In: math.MinInt, Out: math.MaxInt, Most: -1})
	case 3:
		if len(c.Types) > 0 {
			c.Types[d.IntN(len(c.Types))] = api.Type{In: d.IntN(300) - 50, Out: d.IntN(300) - 50, Most: d.IntN(3000) - 500}
		}
	}
	return c
}

// anyCalls makes calls of all kinds, at any argument.
func (d drawing) anyCalls(r machine) {
	ints := []int{math.MinInt, -1, 0, 1, 2, 7, 100, 3000}
	for range 40 {
		r.Go(pick(d, ints))
		r.Give(api.Reply{Status: pick(d, ints), Output: d.bytes(d.IntN(5)), Left: pick(d, []uint64{0, 1, math.MaxUint64})})
		r.Asked()
		r.Ended()
		r.State()
		r.Sight()
	}
}

// 13.6, R1: no call panics, at any argument, on a run of any container in any state; and Bare answers as 13.7 says.
func TestNoCallPanics(t *testing.T) {
	t.Parallel()
	d := draw(51)
	ints := []int{math.MinInt, -1, 0, 1, 2, 3, 1023, 1024}
	taken := 0
	for range 4000 {
		x := d.frame()
		w := x.made(t)
		x.c = d.anyContainer()
		x.f.Self = pick(d, addresses())
		if d.IntN(10) == 0 {
			x.f.Gas, x.f.Depth, x.f.Kind = pick(d, []uint64{0, math.MaxUint64, api.MaxGas}), pick(d, ints), pick(d, ints)
		}
		r, wrong := fast.Bare(w, x.c, x.f)
		if (r == nil) != (wrong != api.OK) || wrong == api.OK && container.Check(x.c) != api.OK {
			t.Fatalf("%v: %v, %v", x, r != nil, wrong)
		}
		if r != nil {
			taken++
			d.anyCalls(r)
			if faulted(r) {
				t.Fatalf("%v: a fault", x)
			}
		}
	}
	if taken < 1000 {
		t.Errorf("%d taken", taken)
	}
	for range 600 {
		x := d.validFrame()
		x.f.Self = pick(d, addresses())
		w, code := x.made(t), x.judged(t)
		if d.IntN(10) == 0 {
			x.f.Gas, x.f.Depth, x.f.Kind = pick(d, []uint64{0, math.MaxUint64, api.MaxGas}), pick(d, ints), pick(d, ints)
		}
		r, wrong := fast.New(w, code, x.f)
		if (r == nil) != (wrong != api.OK) {
			t.Fatalf("%v: %v, %v", x, r != nil, wrong)
		}
		if r != nil {
			d.anyCalls(r)
		}
	}
}

// W3: a run makes at most one step more than its gas, and just so many where each costs 1; the gas that is left is never above what it began with.
func TestAtMostOneStepMore(t *testing.T) {
	for _, gas := range []uint64{0, 1, 2, 50} {
		nops := of(slices.Repeat([]byte{0x5b}, 100), []byte{0})
		nops.gas(gas).goes(t, int(gas)+1, int(gas), halted(api.HaltGas))
	}
	d := draw(52)
	for i := range 1500 {
		x := d.anyFrame()
		begin := x.bare
		if i%2 == 0 {
			x = d.validFrame()
			begin = x.fast
		}
		x.gas(uint64(d.IntN(300)))
		r := begin(t)
		made := r.Go(many)
		for r.State() == api.Asking {
			asked, _ := r.Asked()
			r.Give(d.reply(asked))
			made += r.Go(many)
		}
		if made > int(x.f.Gas)+1 || r.Sight().Left > x.f.Gas {
			t.Fatalf("%v: %d steps, %+v", x, made, r.Sight())
		}
	}
}

// W7: whatever is answered, all that passed comes back at most.
func TestGasWithAllGivenBack(t *testing.T) {
	loop := slices.Concat(raw("5b"), pushed(numbers(10, 0, 0, 0)...), raw("f8 50"), pushed(numbers(0, 0, 0, 0)...), raw("ec00 50 e0"))
	back := -(len(loop) + 2)
	x := rich(loop, []byte{byte(uint16(back) >> 8), byte(back)}).subs(least(0xfe)).gas(1 << 20).fit()
	for _, begin := range begins(t) {
		r := begin(x)
		asks := 0
		for r.State() != api.Ended {
			r.Go(many)
			if asked, ok := r.Asked(); ok {
				asks++
				r.Give(api.Reply{Left: asked.Gas})
			}
			if left := r.Sight().Left; left > 1<<20 {
				t.Fatalf("%d are left", left)
			}
		}
		if end, _ := r.Ended(); !alikeEnds(end, halted(api.HaltGas)) || asks < 50 {
			t.Errorf("%+v behind %d asks", end, asks)
		}
	}
}

// plain is a world in which all is warm that is asked about: what a still frame may not change is all else.
func plain(w *world.World) *world.World {
	for _, a := range addresses() {
		w.Warm(a)
	}
	for _, k := range append(rising(12), keys()...) {
		w.WarmSlot(self, k)
	}
	return w
}

// W12: a still frame stores nothing, tells no log, asks for no account and for no call with a value: balances, slots, transient slots, logs and refund are behind it what they were.
func TestStillFramesChangeNothing(t *testing.T) {
	t.Parallel()
	d := draw(53)
	still, asks := 0, 0
	for i := range 1500 {
		x := d.anyFrame().still()
		begin := x.bare
		if i%2 == 0 {
			x = d.validFrame().still()
			begin = x.fast
		}
		r := begin(t)
		was := x.made(t)
		for _, w := range []*world.World{r.w, was} {
			w.Set(self, n(2), n(3))
			w.TSet(self, n(1), n(4))
			w.Owe(50)
			w.Tell(api.Log{Address: addr(1), Topics: numbers(1)})
		}
		for range 200 {
			r.Go(1)
			if asked, ok := r.Asked(); ok {
				asks++
				if asked.Kind == api.AskMake || asked.Value != (api.Word{}) {
					t.Fatalf("%v asks for %+v", x, asked)
				}
				r.Give(d.reply(asked))
			}
		}
		if wrong := alikeWorlds(plain(r.w), plain(was), append(rising(12), keys()...)); wrong != "" {
			t.Fatalf("%v: %s", x, wrong)
		}
		if end, _ := r.Ended(); end.Why == api.HaltStill {
			still++
		}
	}
	if still < 50 || asks < 10 {
		t.Errorf("only %d halted for it, %d asks", still, asks)
	}
}

// 12.7 of the fast machine: what Owe answers is not looked at, below and above its bounds; a run marks nothing, raises no nonce, moves no value and lays no code, also where it asks and where it deploys.
func TestWhatARunDoesNot(t *testing.T) {
	for _, begin := range begins(t) {
		r := begin(rich(pushed(numbers(1, 6)...), raw("55 00")).fit())
		r.w.Set(self, n(1), n(0)) // cleared, though nothing is owed for it
		r.Go(many)
		if end, _ := r.Ended(); end.Kind != api.EndStop || r.w.Get(self, n(1)) != n(6) || r.w.Owed() != 0 {
			t.Errorf("%+v, %x, owed %d", end, r.w.Get(self, n(1)), r.w.Owed())
		}
		r = begin(rich(pushed(numbers(1, 0)...), raw("55 00")).fit())
		r.w.Owe(1 << 62)
		r.Go(many)
		if end, _ := r.Ended(); end.Kind != api.EndStop || r.w.Get(self, n(1)) != n(0) || r.w.Owed() != 1<<62 {
			t.Errorf("%+v, %x, owed %d", end, r.w.Get(self, n(1)), r.w.Owed())
		}
		call := slices.Concat(pushed(numbers(10, 0, 1, 3)...), raw("f8 50"))
		create := slices.Concat(pushed(numbers(3, 0, 0, 1)...), raw("ec00 50"))
		x := rich(call, create, pushed(numbers(0, 1)...), raw("ee01")).subs(least(0xfe), least(0x00)).gas(200000).init().fit()
		r = begin(x)
		for range 2 {
			r.Go(many)
			asked, asks := r.Asked()
			if !asks {
				t.Fatalf("%+v", r.Sight())
			}
			r.Give(api.Reply{Address: addr(99), Left: asked.Gas})
		}
		r.Go(many)
		if end, _ := r.Ended(); end.Kind != api.EndDeploy {
			t.Errorf("%+v", end)
		}
		was := x.made(t)
		was.Warm(self)
		if wrong := alikeWorlds(r.w, was, keys()); wrong != "" {
			t.Error(wrong)
		}
	}
}

// The longest containers that may be: as many sections as there may be, and sections as long as may be, are taken and run.
func TestTheLongest(t *testing.T) {
	long := slices.Repeat([]byte{0x5b}, api.MaxSection)
	copy(long[api.MaxSection-3:], raw("e5 0001"))
	x := of(long).gas(1 << 20)
	for s := 1; s < api.MaxSections; s++ {
		x.section(api.Type{Out: never}, []byte{0xe5, byte((s + 1) >> 8), byte(s + 1)})
	}
	x.c.Codes[api.MaxSections-1] = raw("00")
	steps := api.MaxSection - 3 + 1 + api.MaxSections - 2 + 1
	left := uint64(1<<20 - (api.MaxSection - 3) - 5*(api.MaxSections-1))
	for _, s := range []side{x.fast(t), x.bare(t), x.checked(t)} {
		s.ends(t, "the longest", steps, api.Place{Section: api.MaxSections - 1}, stopped(left))
	}
}
