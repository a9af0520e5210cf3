package fast_test

import (
	"slices"
	"testing"

	"vouch/api"
)

// met counts the instructions, and the ends, that runs come to.
type met struct {
	done map[string]int
	ends map[int]int
	whys map[int]int
}

func newMet() *met { return &met{map[string]int{}, map[int]int{}, map[int]int{}} }

// see counts the instruction that comes.
func (m *met) see(x *frame, r machine) {
	s := r.Sight()
	if b := x.c.Codes[s.Section]; s.At < len(b) {
		m.done[table[int(b[s.At])].name]++
	}
}

// nameAt is the name of the instruction at a place.
func (x *frame) nameAt(p api.Place) string { return table[int(x.c.Codes[p.Section][p.At])].name }

// rarest is the number of the place at which the instruction stands that was met least.
func (m *met) rarest(x *frame, at []api.Place) int {
	least := 0
	for i, p := range at {
		if m.done[x.nameAt(p)] < m.done[x.nameAt(at[least])] {
			least = i
		}
	}
	return least
}

func (m *met) end(r machine) {
	if end, ended := r.Ended(); ended {
		m.ends[end.Kind]++
		m.whys[end.Why]++
	}
}

// atLeast: every instruction was met so often.
func (m *met) atLeast(t *testing.T, times int) {
	t.Helper()
	for _, row := range table {
		if m.done[row.name] < times {
			t.Errorf("%s was met %d times", row.name, m.done[row.name])
		}
	}
}

// 13.2, 13.5, W1, W2: drawn valid containers, each beside the checked machine over a world like the other's, step by step: all that is told, and the whole world, is alike at every moment; every instruction is among them, and no fault.
func TestDrawnValidStepByStep(t *testing.T) {
	t.Parallel()
	d := draw(1)
	m := newMet()
	returns := 0
	for range 1200 {
		x := d.validFrame()
		p := &pair{t: t, what: x, a: x.fast(t), b: x.checked(t), world: true}
		p.whole(d, 1, 300, func() {
			m.see(x, p.a)
			returns = max(returns, p.a.Sight().Returns)
		})
		m.end(p.a)
	}
	m.atLeast(t, 5)
	for _, kind := range []int{api.EndStop, api.EndReturn, api.EndDeploy, api.EndRevert, api.EndHalt} {
		if m.ends[kind] < 20 {
			t.Errorf("%d ends of kind %d", m.ends[kind], kind)
		}
	}
	for _, why := range []int{api.HaltGas, api.HaltStill, api.HaltAddress, api.HaltDeploy, api.HaltInvalid} {
		if m.whys[why] < 1 {
			t.Errorf("no halt for %d", why)
		}
	}
	if m.ends[api.EndFault] > 0 || returns < 5 {
		t.Errorf("%d faults, %d places", m.ends[api.EndFault], returns)
	}
}

// 13.2, 13.5, W3: the same in drawn pieces, the same pieces on both sides; and the one in pieces, the other in one.
func TestDrawnValidInPieces(t *testing.T) {
	t.Parallel()
	d := draw(2)
	for range 600 {
		x := d.validFrame()
		p := &pair{t: t, what: x, a: x.fast(t), b: x.checked(t), world: true}
		p.whole(d, pick(d, []int{4, 10, 100}), 400, nil)
		parts := &pair{t: t, what: x, a: x.fast(t), b: x.checked(t)}
		for total := 0; total < 1500 && parts.b.State() != api.Ended; {
			parts.answer(d)
			steps := 1 + d.IntN(60)
			want := parts.b.Go(steps)
			got := 0
			for left := steps; left > 0; {
				piece := 1 + d.IntN(left)
				got += parts.a.Go(piece)
				left -= piece
			}
			if got != want {
				t.Fatalf("%v: %d steps in pieces, %d in one", x, got, want)
			}
			parts.hold()
			total += steps
		}
		parts.holdWorlds()
	}
}

// 13.2, 13.5: drawn valid containers, with gas up to a drawn step, and with one gas too little for it: every instruction that costs something is met so.
func TestDrawnValidWithOneGasTooLittle(t *testing.T) {
	t.Parallel()
	d := draw(3)
	short := newMet()
	for range 1500 {
		x := d.validFrame()
		probe := x.checked(t)
		var lefts []uint64 // behind each step
		var at []api.Place
		for len(lefts) < 200 && probe.State() == api.Going {
			s := probe.Sight()
			at = append(at, api.Place{Section: s.Section, At: s.At})
			probe.Go(1)
			lefts = append(lefts, probe.Sight().Left)
		}
		if probe.State() != api.Going { // what it was paid can't be told of an end, or of an ask
			lefts = lefts[:len(lefts)-1]
		}
		if len(lefts) == 0 {
			continue
		}
		step := short.rarest(x, at[:len(lefts)])
		paid := x.f.Gas - lefts[step]
		for _, gas := range []uint64{paid, paid - 1} {
			x.gas(gas)
			p := &pair{t: t, what: x, a: x.fast(t), b: x.checked(t), world: true}
			p.whole(d, 1, step+1, nil)
			end, ended := p.a.Ended()
			if gas == paid-1 && (!ended || end.Why != api.HaltGas) {
				t.Fatalf("%v: %+v, %v at step %d", x, end, ended, step)
			}
			if s := p.a.Sight(); ended && (api.Place{Section: s.Section, At: s.At}) == at[step] {
				short.done[x.nameAt(at[step])]++
			}
		}
	}
	for _, row := range table {
		if row.cost > 0 && row.name != "EOFCREATE" && short.done[row.name] < 2 {
			t.Errorf("%s was one gas short %d times", row.name, short.done[row.name])
		}
	}
}

// 13.2, 13.5: each halt in valid code, beside the checked machine; HaltRoom and HaltReturns at their bounds, and one past them.
func TestHaltsInValidCode(t *testing.T) {
	for _, l := range []struct {
		x    *frame
		want int
	}{
		{coded("5f 50 00").gas(3), api.HaltGas},
		{of(pushed(n(api.MaxMemory)), raw("51 00")).gas(api.MaxGas), api.HaltGas},
		{of(pushed(top, top), raw("20 00")).gas(api.MaxGas), api.HaltGas},
		{coded("5f 5f 55 00").gas(4 + 100 + 2200), api.HaltGas},
		{coded("5f 5f 55 00").still(), api.HaltStill},
		{coded("5f 5f 5d 00").still(), api.HaltStill},
		{coded("5f 5f a0 00").still(), api.HaltStill},
		{coded("5f 5f 5f 5f 5f 5f a4 00").still(), api.HaltStill},
		{coded("6001 5f 5f 30 f8 00").still(), api.HaltStill},
		{coded("5f 5f 5f 5f ec00 00").subs(least(0xfe)).gas(50000).still(), api.HaltStill},
		{of(pushed(power(160)), raw("31 00")), api.HaltAddress},
		{of(zeros(3), pushed(power(160)), raw("f8 00")), api.HaltAddress},
		{of(zeros(2), pushed(top), raw("f9 00")), api.HaltAddress},
		{of(zeros(2), pushed(power(255)), raw("fb 00")), api.HaltAddress},
		{coded("5f 5f ee00").init().subs(sized(0x00, 3, 2)), api.HaltDeploy},
		{of(pushed(n(0), n(65536)), raw("ee00")).init().subs(least(0x00)).gas(api.MaxGas), api.HaltDeploy},
		{of(pushed(n(0), n(api.MaxDeploy-19)), raw("ee00")).init().subs(least(0x00)).gas(api.MaxGas), api.HaltDeploy},
		{coded("fe"), api.HaltInvalid},
		{coded("e3 0001 00").section(api.Type{}, raw("5f e1 0001 fe e4")), api.HaltInvalid},
	} {
		for _, p := range l.x.fit().three(t) {
			p.whole(draw(4), 1, many, nil)
			if end, _ := p.a.Ended(); !alikeEnds(end, halted(l.want)) {
				t.Errorf("%v: %+v, not %d", l.x, end, l.want)
			}
		}
	}
}

// The account's code at its bound: MaxDeploy bytes are laid, and what that costs.
func TestDeployedAtTheBound(t *testing.T) {
	most := api.MaxDeploy - 20
	x := of(pushed(n(0), n(uint64(most))), raw("ee00")).init().subs(least(0x00)).gas(api.MaxGas).fit()
	for _, p := range x.three(t) {
		p.whole(draw(5), 1, many, nil)
		if end, _ := p.a.Ended(); end.Kind != api.EndDeploy || len(end.Output) != api.MaxDeploy || len(end.Behind) != most {
			t.Errorf("%d, %d and %d bytes", end.Kind, len(end.Output), len(end.Behind))
		}
	}
}

// pops is code that takes so many words.
func pops(words int) []byte { return slices.Repeat([]byte{0x50}, words) }

// calledRoom is valid code in which a CALLF of a section that takes so many words, and has at most so many, is made at 900 words.
func calledRoom(in, most int) *frame {
	return of(zeros(600), raw("e3 0001"), dump(0)).
		section(api.Type{}, zeros(300), raw("e3 0002"), pops(300-in), raw("e4")).
		section(api.Type{In: in}, zeros(most-in), pops(most), raw("e4"))
}

// jumpedRoom is likewise of a JUMPF; the words that the section takes are pushed right ahead of it.
func jumpedRoom(in, most int) *frame {
	return of(zeros(900-in), raw("e3 0001"), dump(0)).
		section(api.Type{}, zeros(in), raw("e5 0002")).
		section(api.Type{In: in}, zeros(most-in), pops(most), raw("e4"))
}

// 13.2, 13.5: HaltRoom in valid code: where a section may come to 1024 words there is room, one past it there is none.
func TestRoomInValidCode(t *testing.T) {
	for _, made := range []func(in, most int) *frame{calledRoom, jumpedRoom} {
		for _, in := range []int{0, 1, 100} {
			for _, over := range []bool{false, true} {
				most := 1024 - (900 - in)
				if over {
					most++
				}
				x := made(in, most).fit().gas(100000)
				for _, p := range x.three(t) {
					p.world = false
					p.whole(draw(6), 1, many, nil)
					end, _ := p.a.Ended()
					if over != alikeEnds(end, halted(api.HaltRoom)) || !over && end.Kind != api.EndRevert {
						t.Errorf("in %d, most %d: %+v", in, most, end)
					}
				}
			}
		}
	}
}

// 13.2, 13.5: HaltReturns in valid code: 1024 places there may be, and not one more; and all the way back.
func TestReturnsInValidCode(t *testing.T) {
	for _, depth := range []uint64{1023, 1024} {
		x := of(pushed(n(depth)), raw("e3 0001 50 00")).section(api.Type{In: 1, Out: 1}, raw("80 e1 0001 e4 6001 90 03 e3 0001 e4")).gas(1 << 20).fit()
		for _, p := range x.three(t) {
			p.world = false
			most := 0
			p.whole(draw(7), 1, many, func() { most = max(most, p.a.Sight().Returns) })
			end, _ := p.a.Ended()
			if most != 1024 || depth == 1023 && end.Kind != api.EndStop || depth == 1024 && !alikeEnds(end, halted(api.HaltReturns)) {
				t.Errorf("%d deep: %+v, at most %d places", depth, end, most)
			}
		}
	}
}
