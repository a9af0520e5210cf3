package lean_test

import (
	"bytes"
	"math"
	"slices"
	"testing"

	"vouch/api"
	"vouch/lean"
	"vouch/valid"
)

// refused holds that a container is refused, with this, and so is not lean.
func refused(t testing.TB, c api.Container, kind int, want api.Reject) {
	t.Helper()
	was := copyOf(c)
	d, no := lean.Lean(c, kind)
	if !none(d) || d.Types != nil || d.Codes != nil || d.Subs != nil || d.Data != nil || !sameNo(no, want) {
		t.Errorf("%s as %d: %s, %+v, not %+v", told(c), kind, told(d), no, want)
	}
	if lean.Is(c, kind) {
		t.Errorf("%s as %d: it is lean", told(c), kind)
	}
	if !same(c, was) {
		t.Errorf("%s as %d: changed, to %s", told(was), kind, told(c))
	}
}

// no is a refusal.
func no(wrong api.Errno, section, at int, path ...int) api.Reject {
	return api.Reject{Code: wrong, Path: path, Section: section, At: at}
}

// spoilt are containers that are not valid, each with why; most have something idle ahead of it.
func spoilt() []struct {
	c  api.Container
	no api.Reject
} {
	fine, short := one(0, "5b 00"), one(0, "5b 00")
	short.Size, short.Data = 1, raw("07 08")
	bad := bytesOf(one(0, "50 fe"))
	return []struct {
		c  api.Container
		no api.Reject
	}{
		{api.Container{}, no(api.ErrCodes, 0, 0)},
		{api.Container{Codes: make([][]byte, 1025)}, no(api.ErrCodes, 0, 0)},
		{api.Container{Codes: [][]byte{raw("5b 00")}}, no(api.ErrTypes, 0, 0)},
		{of(typed(0), ""), no(api.ErrNone, 0, 0)},
		{api.Container{Types: typed(0), Codes: [][]byte{append(times("5b", 65535), 0x00)}}, no(api.ErrLong, 0, 0)},
		{with(fine, make([][]byte, 257)...), no(api.ErrSubs, 0, 0)},
		{short, no(api.ErrArg, 0, 0)},
		{of([]api.Type{{Out: 0}}, "5b 00"), no(api.ErrType, 0, 0)},
		{of([]api.Type{{In: 1, Out: never, Most: 1}}, "5b 00"), no(api.ErrType, 0, 0)},
		{one(0, "5b 0c"), no(api.ErrOpcode, 0, 1)},
		{one(0, "5b 61 00"), no(api.ErrImm, 0, 1)},
		{one(0, "5b 5b"), no(api.ErrOpen, 0, 1)},
		{one(0, "5b e0 0001 00"), no(api.ErrTarget, 0, 1)},
		{one(0, "5b 50 00"), no(api.ErrUnder, 0, 1)},
		{of(typed(2, 0, never, 1023), "5b 5f 5f e5 0001", "5b 00"), no(api.ErrOver, 0, 3)},
		{one(1, "5b 5f e0 fffc"), no(api.ErrLoop, 0, 2)},
		{one(0, "5b 00 5b 00"), no(api.ErrDead, 0, 2)},
		{of(typed(1, 0, 1, 0), "5b e3 0001 50 00", "5b e4"), no(api.ErrReturn, 1, 1)},
		{one(1, "5b 00"), no(api.ErrMost, 0, 0)},
		{one(0, "5b ee00"), no(api.ErrBarred, 0, 1)},
		{one(0, "5b e3 0001 00"), no(api.ErrSection, 0, 1)},
		{one(0, "5b e3 0000 00"), no(api.ErrNever, 0, 1)},
		{of(typed(1, 0, 0, 0, 0, 1, 1), "5b e3 0001 e3 0002 00", "5b e5 0002", "5f e4"), no(api.ErrOuts, 1, 1)},
		{one(1, "5b d1 0000 00"), no(api.ErrData, 0, 1)},
		{one(4, "5b 5f 5f 5f 5f ec 00 00"), no(api.ErrSub, 0, 5)},
		{of(typed(0, 0, 0, 0), "5b e3 0001 00", "5b 00"), no(api.ErrFlag, 1, 0)},
		{of(typed(0, 0, 0, 0), "5b 00", "5b e4"), no(api.ErrApart, 1, 0)},
		{with(fine, stuck()), no(api.ErrIdle, 0, 0, 0)},
		{with(one(4, "5b 5f 5f 5f 5f ec 00 00"), raw("ee")), no(api.ErrMagic, 0, 0, 0)},
		{with(one(4, "5b 5f 5f 5f 5f ec 00 00"), bytesOf(with(one(4, "5b 5f 5f 5f 5f ec 00 fe"), bad))), no(api.ErrUnder, 0, 0, 0, 0)},
		{of(typed(0, 0, 0, 0), "5b e3 0001 00", "5b 50 e4"), no(api.ErrUnder, 1, 1)},
	}
}

// 20.2, 20.3: containers that are not valid, one for each reason: nothing is made of them, and what is said is written out.
func TestSpoilt(t *testing.T) {
	met := map[api.Errno]bool{}
	for _, x := range spoilt() {
		refused(t, x.c, api.Runtime, x.no)
		met[x.no.Code] = true
	}
	both := with(one(4, "36 e1 0004 5f 5f ee 00 5f 5f 5f 5f ec 00 fe"), stuck())
	refused(t, both, api.Init, no(api.ErrBoth, 0, 0, 0))
	if len(met) != 27 {
		t.Errorf("only %d reasons", len(met))
	}
}

// 20.2, 20.3: what is valid as one kind, as the other one or as both: as each it is told of; of a kind that is none it is ErrArg, whatever the container.
func TestKinds(t *testing.T) {
	runtime, init, both := one(0, "5b 00"), with(one(2, "5b 5f 5f ee 00"), stops()), one(0, "5b fe")
	for _, x := range []struct {
		c    api.Container
		kind int
		want string
	}{
		{runtime, api.Runtime, "00"}, {init, api.Init, "5f 5f ee 00"}, {both, api.Runtime, "fe"}, {both, api.Init, "fe"},
	} {
		if d := held(t, x.c, x.kind); !bytes.Equal(d.Codes[0], raw(x.want)) {
			t.Errorf("%s as %d: %s", told(x.c), x.kind, told(d))
		}
	}
	refused(t, runtime, api.Init, no(api.ErrBarred, 0, 1))
	refused(t, init, api.Runtime, no(api.ErrBarred, 0, 3))
	returns := one(2, "5b 5f 5f f3")
	refused(t, returns, api.Init, no(api.ErrBarred, 0, 3))
	for _, kind := range []int{0, 3, -1, 4, 256, math.MaxInt, math.MinInt} {
		for _, x := range spoilt() {
			refused(t, x.c, kind, no(api.ErrArg, 0, 0))
		}
		for _, c := range []api.Container{runtime, init, both, one(0, "00")} {
			refused(t, c, kind, no(api.ErrArg, 0, 0))
		}
	}
}

// 20.2: what is lean as one kind is that as the other one, if it is valid as that.
func TestIsKinds(t *testing.T) {
	for _, x := range []struct {
		c             api.Container
		runtime, init bool
	}{
		{one(0, "00"), true, false}, {one(0, "fe"), true, true}, {one(0, "5b 00"), false, false}, {one(0, "5b fe"), false, false},
		{with(one(2, "5f 5f ee 00"), stops()), false, true}, {with(one(2, "5f 5f ee 00"), stuck()), false, true}, {one(2, "5f 5f fd"), true, true}, {one(2, "5f 5f f3"), true, false},
	} {
		if lean.Is(x.c, api.Runtime) != x.runtime || lean.Is(x.c, api.Init) != x.init {
			t.Errorf("%s: not %v, %v", told(x.c), x.runtime, x.init)
		}
	}
}

// wild is any container: lists of any length, of anything.
func (g drawing) wild() api.Container {
	c := api.Container{Size: pick(g, 0, 0, 0, -1, 65535, 65536, int(g.Uint64())), Data: g.bytes(g.IntN(3))}
	for range g.IntN(4) {
		c.Types = append(c.Types, api.Type{In: pick(g, 0, g.IntN(200), int(g.Uint64())), Out: pick(g, never, g.IntN(200), int(g.Uint64())), Most: pick(g, 0, g.IntN(2000), int(g.Uint64()))})
	}
	for range g.IntN(4) {
		c.Codes = append(c.Codes, g.bytes(g.IntN(9)))
	}
	for range g.IntN(3) {
		c.Subs = append(c.Subs, g.bytes(g.IntN(30)))
	}
	return c
}

// turned is a container of which something is another one.
func (g drawing) turned(c api.Container) api.Container {
	c = copyOf(c)
	s := g.IntN(len(c.Codes))
	switch g.IntN(9) {
	case 0:
		c.Types[s].Most += pick(g, -1, 1)
	case 1:
		c.Types[g.IntN(len(c.Types))].In += pick(g, -1, 1)
	case 2:
		c.Codes, c.Types = append(c.Codes, raw("fe")), append(c.Types, api.Type{Out: never})
	case 3:
		c.Subs = append(c.Subs, stuck())
	case 4:
		c.Size -= 3
	case 5:
		at := g.IntN(len(c.Codes[s]))
		c.Codes[s] = slices.Delete(c.Codes[s], at, at+1)
	default:
		telling := []byte{0x00, 0x50, 0x5b, 0x5f, 0x80, 0xe0, 0xe1, 0xe2, 0xe3, 0xe4, 0xe5, 0xee, 0xf3, 0xff}
		c.Codes[s][g.IntN(len(c.Codes[s]))] = pick(g, pick(g, telling...), byte(g.Uint32()))
	}
	return c
}

// 20.2, 20.3, R1: any containers, and drawn ones of which something is another one, as each kind and as none: what Judge says, or all that must hold.
func TestAny(t *testing.T) {
	g := draw(4)
	met := map[api.Errno]int{}
	for i := range 12000 {
		c, kind := g.wild(), pick(g, 0, 1, 2, 3, int(g.Uint64()))
		if i%2 == 0 {
			kind = kinds[i/2%2]
			c = g.turned(g.container(plan{kind: kind, asks: i%3 == 0, uneven: 2}))
		}
		no := valid.Judge(c, kind)
		if met[no.Code]++; no.Code != api.OK {
			refused(t, c, kind, no)
		} else if i%3 == 0 {
			held(t, c, kind)
		}
	}
	for _, wrong := range []api.Errno{api.OK, api.ErrArg, api.ErrTypes, api.ErrNone, api.ErrTarget, api.ErrUnder, api.ErrDead, api.ErrMost, api.ErrLoop, api.ErrSub, api.ErrIdle, api.ErrApart} {
		if met[wrong] < 20 {
			t.Errorf("only %d of %d", met[wrong], wrong)
		}
	}
	t.Log(met)
}
