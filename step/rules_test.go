package step_test

import (
	"math"
	"testing"

	"vouch/api"
	"vouch/container"
	"vouch/step"
)

// anyContainer is one of which nothing is sure, not even that it may be.
func (d drawing) anyContainer() api.Container {
	var c api.Container
	if d.IntN(3) > 0 {
		c = d.container(pick(d, []int{api.Runtime, api.Init}), true, true)
	}
	for range d.IntN(3) {
		c.Codes = append(c.Codes, d.bytes(d.IntN(60)))
		c.Types = append(c.Types, api.Type{In: d.IntN(4), Out: d.IntN(129), Most: d.IntN(1024)})
	}
	for _, b := range c.Codes {
		for range d.IntN(3) {
			if len(b) > 0 {
				b[d.IntN(len(b))] = byte(d.Uint32())
			}
		}
	}
	for range d.IntN(3) {
		c.Subs = append(c.Subs, d.bytes(d.IntN(30)))
	}
	switch d.IntN(12) {
	case 0:
		c.Size += d.IntN(5) - 2
	case 1:
		c.Size = pick(d, []int{math.MinInt, math.MaxInt, -1, 65535, 65536})
	case 2:
		c.Types = append(c.Types, api.Type{In: math.MinInt, Out: math.MaxInt, Most: -1})
	case 3:
		if len(c.Types) > 0 {
			c.Types[d.IntN(len(c.Types))] = api.Type{In: d.IntN(300) - 50, Out: d.IntN(300) - 50, Most: d.IntN(3000) - 500}
		}
	}
	return c
}

// R1: no call panics, at any argument, on a run of any container in any state; and New answers as 12.1 says.
func TestNoCallPanics(t *testing.T) {
	d := draw(21)
	ints := []int{math.MinInt, -1, 0, 1, 2, 7, 100, 3000}
	taken, ends := 0, map[int]int{}
	for range 8000 {
		x := d.frame()
		w := x.made(t)
		x.c = d.anyContainer()
		x.f.Self = pick(d, addresses())
		if d.IntN(10) == 0 {
			x.f.Gas, x.f.Depth, x.f.Kind = pick(d, []uint64{0, math.MaxUint64, api.MaxGas}), pick(d, ints), pick(d, ints)
		}
		if x.f.Gas > 1<<20 {
			x.f.Gas = pick(d, []uint64{1 << 20, 1 << 20, x.f.Gas})
		}
		r, wrong := step.New(w, x.c, x.f)
		if (r == nil) != (wrong != api.OK) || wrong == api.OK && container.Check(x.c) != api.OK {
			t.Fatalf("%v: %v, %v", x, r != nil, wrong)
		}
		if r == nil {
			continue
		}
		taken++
		for range 40 {
			r.Go(pick(d, ints))
			r.Give(api.Reply{Status: pick(d, ints), Output: d.bytes(d.IntN(5)), Left: pick(d, []uint64{0, 1, math.MaxUint64})})
			r.Asked()
			r.Ended()
			r.State()
			r.Sight()
		}
		end, _ := r.Ended()
		ends[end.Kind]++
	}
	if taken < 1000 || ends[api.EndFault] < 100 || ends[api.EndHalt] < 100 {
		t.Errorf("%d taken, ends %v", taken, ends)
	}
}

// R1: sections of any bytes go as the model says.
func TestAnyBytes(t *testing.T) {
	d := draw(22)
	for range 6000 {
		x := d.frame()
		for s := range 1 + d.IntN(2) {
			t := api.Type{In: d.IntN(2), Out: pick(d, []int{0, 1, never}), Most: d.IntN(9)}
			if s == 0 {
				t.In, t.Out = 0, never
			}
			b := d.bytes(1 + d.IntN(40))
			for i := range b {
				if d.IntN(2) == 0 {
					b[i] = pick(d, []byte{0x5f, 0x5f, 0x60, 0x80, 0x5b, 0x50, 0xe0, 0xe1, 0x00, 0x30})
				}
			}
			x.section(t, b)
		}
		x.paired(t).whole(d, 200)
	}
}

// The longest containers that may be: as many sections as there may be, each as long as it may be, are taken and run.
func TestTheLongest(t *testing.T) {
	long := make([]byte, api.MaxSection)
	for i := range long {
		long[i] = 0x5b
	}
	copy(long[api.MaxSection-3:], raw("e5 0001"))
	x := of(long).gas(1 << 20)
	for s := 1; s < 40; s++ {
		b := make([]byte, api.MaxSection)
		b[0], b[1], b[2] = 0xe5, byte((s+1)>>8), byte(s+1)
		x.section(api.Type{Out: never}, b)
	}
	x.c.Codes[39] = raw("00")
	r, _, made := x.gone(t)
	if end, _ := r.Ended(); end.Kind != api.EndStop || made != api.MaxSection-3+1+38+1 {
		t.Errorf("%+v, %d steps", end, made)
	}
}
