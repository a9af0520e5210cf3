package fast_test

import (
	"maps"
	"slices"
	"testing"

	"vouch/api"
	"vouch/valid"
)

// faulted: has a run told a fault?
func faulted(r machine) bool {
	end, _ := r.Ended()
	return end.Kind == api.EndFault
}

// untilFault lets a bare run go beside a checked one, step by step, till that tells a fault; how many steps were made ahead of it.
func (p *pair) untilFault(d drawing, most int) int {
	p.t.Helper()
	p.hold()
	for made := range most {
		if p.b.State() == api.Ended {
			return made
		}
		p.answer(d)
		p.a.Go(1)
		if p.b.Go(1); faulted(p.b) {
			return made
		}
		p.hold()
	}
	return most
}

// anyFrame is a frame of a container of which nothing is sure, but that it may be.
func (d drawing) anyFrame() *frame {
	x := d.frame()
	switch d.IntN(4) {
	case 0:
		return d.program()
	case 1: // valid, and some bytes of it turned
		x.c = d.container(x.f.Kind, true, true)
		for _, b := range x.c.Codes {
			for range d.IntN(3) {
				b[d.IntN(len(b))] = byte(d.Uint32())
			}
		}
		return x
	}
	for s := range 1 + d.IntN(3) {
		t := api.Type{In: d.IntN(3), Out: pick(d, []int{0, 1, 2, never}), Most: pick(d, []int{0, 1, 9, 500, 1023})}
		if s == 0 {
			t.In, t.Out = 0, never
		}
		x.section(t, d.section())
	}
	return x
}

// section is any bytes, those mostly by which a run comes far; now and then as long as may be, with what is drawn at both ends.
func (d drawing) section() []byte {
	common := []byte{0x5f, 0x5f, 0x60, 0x61, 0x80, 0x5b, 0x50, 0x90, 0xe0, 0xe1, 0xe2, 0xe3, 0xe4, 0xe5, 0xe6, 0xe7, 0xe8, 0xd1, 0x30, 0x52, 0x59}
	some := func(size int) []byte {
		b := d.bytes(size)
		for i := range b {
			if d.IntN(5) > 1 {
				b[i] = pick(d, common)
			}
		}
		return b
	}
	if d.IntN(5) > 0 {
		return some(1 + d.IntN(40))
	}
	b := slices.Repeat([]byte{pick(d, []byte{0x5b, 0x5f, 0x00, 0xe4})}, api.MaxSection-d.IntN(3))
	copy(b, some(1+d.IntN(30)))
	tail := some(1 + d.IntN(20))
	copy(b[len(b)-len(tail):], tail)
	if d.IntN(2) == 0 { // a way from the one end to the other
		distance := -3 - 1 - d.IntN(len(tail)+3)
		copy(b, []byte{0xe0, byte(uint16(distance) >> 8), byte(distance)})
	}
	return b
}

// 13.8: drawn containers, valid or not: as long as the checked run tells no fault, the bare one answers the same, and the worlds are alike; step by step, and then in one piece up to the fault.
func TestBareBesideChecked(t *testing.T) {
	t.Parallel()
	d := draw(41)
	faults, ends := map[int]int{}, map[int]int{}
	for range 4000 {
		x := d.anyFrame()
		seed := d.Uint64()
		p := &pair{t: t, what: x, a: x.bare(t), b: x.checked(t), world: true}
		made := p.untilFault(draw(seed), 200)
		end, _ := p.b.Ended()
		ends[end.Kind]++
		if end.Kind == api.EndFault {
			faults[end.Why]++
		}
		q := &pair{t: t, what: x, a: x.bare(t), b: x.checked(t)}
		first := draw(seed)
		for q.b.State() != api.Ended && made > 0 {
			q.answer(first)
			made -= q.step(made)
			q.hold()
		}
		q.holdWorlds()
	}
	for why := api.FaultPlace; why <= api.FaultSub; why++ {
		if why != api.FaultOver && faults[why] < 5 {
			t.Errorf("the fault %d was met %d times", why, faults[why])
		}
	}
	for _, kind := range []int{api.EndStop, api.EndReturn, api.EndDeploy, api.EndRevert, api.EndHalt} {
		if ends[kind] < 5 {
			t.Errorf("%d ends of kind %d", ends[kind], kind)
		}
	}
}

// 13.8: also where the stack is full, up to the fault.
func TestBareBesideCheckedAtAFullStack(t *testing.T) {
	for _, tail := range []string{"5f", "80", "6001", "30", "e600", "50 5f 5f", "90 80", "36"} {
		x := of(zeros(1024), raw(tail))
		p := &pair{t: t, what: x, a: x.bare(t), b: x.checked(t)}
		if made := p.untilFault(draw(1), many); made < 1024 || !faulted(p.b) || p.a.Sight().Height != 1025 {
			t.Errorf("%s: %d steps, %+v", tail, made, p.a.Sight())
		}
	}
}

// 13.9, W16: valid containers: a bare run answers what New's run answers, call by call.
func TestBareBesideNew(t *testing.T) {
	t.Parallel()
	d := draw(42)
	for range 900 {
		x := d.validFrame()
		p := &pair{t: t, what: x, a: x.bare(t), b: x.fast(t), world: true}
		p.whole(d, pick(d, []int{1, 4, 30}), 200, nil)
	}
}

// 13.7: drawn containers, valid or not, each beside the model, step by step, at every moment alike, and so their worlds; and all that no valid code does is met.
func TestBareBesideTheModel(t *testing.T) {
	t.Parallel()
	d := draw(43)
	done, odd, ends := map[string]int{}, map[string]int{}, map[int]int{}
	for range 9000 {
		x := d.anyFrame()
		w := x.made(t)
		m := newModel(w, x.c, x.f)
		p := &pair{t: t, what: x, a: x.bare(t), b: side{m, w}}
		p.whole(d, 1, 300, nil)
		p.keys = slices.Collect(maps.Keys(m.asked))
		p.holdWorlds()
		for name, times := range m.met {
			done[name] += times
		}
		for name := range m.odd {
			odd[name]++
		}
		ends[m.end.Kind]++
		ends[1000+m.end.Why]++
	}
	for _, row := range table {
		if done[row.name] < 10 {
			t.Errorf("%s was done %d times", row.name, done[row.name])
		}
	}
	for _, name := range []string{"a byte behind the end", "no instruction", "barred", "too few words", "a place that comes round", "a word behind the data", "a return to nowhere", "no section", "a call of what never returns", "no nested container", "a nested container that is none"} {
		if odd[name] < 10 {
			t.Errorf("%s: %d times", name, odd[name])
		}
	}
	for _, end := range []int{api.EndStop, api.EndReturn, api.EndDeploy, api.EndRevert, api.EndHalt} {
		if ends[end] < 10 {
			t.Errorf("the end %d was told %d times", end, ends[end])
		}
	}
	for _, why := range []int{api.HaltGas, api.HaltRoom, api.HaltStill, api.HaltAddress, api.HaltDeploy, api.HaltInvalid} {
		if ends[1000+why] < 10 {
			t.Errorf("%d was told %d times", why, ends[1000+why])
		}
	}
	if ends[api.EndFault] > 0 {
		t.Error("a fault")
	}
}

// 13.7: long bare runs beside the model: words and places far below nothing and far above their most.
func TestLongBareRuns(t *testing.T) {
	d := draw(44)
	low, high, lowReturns := 0, 0, 0
	for range 150 {
		var code []byte
		for range 2 + d.IntN(12) {
			code = append(code, pick(d, [][]byte{{0x5f}, {0x80}, {0x8f}, {0x30}, {0x50}, {0x50, 0x50}, {0x90}, {0x9f}, {0xe6, 200}, {0xe7, 255}, {0xe8, 0xff}, {0x01}, {0xe4}, {0xe3, 0, 1}, {0xe3, 0, 3}, {0xe1, 0, 0}})...)
		}
		back := -len(code) - 3
		code = append(code, 0xe0, byte(uint16(back)>>8), byte(back))
		x := of(code).section(api.Type{In: d.IntN(3), Out: pick(d, []int{0, never}), Most: d.IntN(3)}, pick(d, [][]byte{{0x5b, 0xe4}, {0xe4}, {0x50, 0xe4}, {0x5f, 0x5f, 0xe4}, {0x5b, 0xe5, 0, 0}}))
		x.gas(40000)
		w := x.made(t)
		p := &pair{t: t, what: x, a: x.bare(t), b: side{newModel(w, x.c, x.f), w}}
		p.whole(d, 1, 5000, func() {
			s := p.b.Sight()
			low, high, lowReturns = min(low, s.Height), max(high, s.Height), min(lowReturns, s.Returns)
		})
	}
	if low > -1100 || high < 1100 || lowReturns > -1100 {
		t.Errorf("from %d to %d words, from %d places on", low, high, lowReturns)
	}
}

// W1, 12.11 of the fast machine: over valid code the place is one where an instruction begins, and the words are those of 8.8.
func TestPlacesAndWordsOfValidCode(t *testing.T) {
	d := draw(45)
	for range 400 {
		x := d.validFrame()
		code := x.judged(t)
		heights := map[api.Place]api.Height{}
		for s := range code.Sections() {
			for _, h := range code.Heights(s) {
				heights[api.Place{Section: s, At: h.At}] = h
			}
		}
		r := x.fast(t)
		bases := []int{0} // of each section that is not left yet: how many words lay below those that it took
		for made := 0; made < 800 && r.State() != api.Ended; made++ {
			if asked, asks := r.Asked(); asks {
				r.Give(d.reply(asked))
			}
			s := r.Sight()
			h, there := heights[api.Place{Section: s.Section, At: s.At}]
			own := s.Height - bases[len(bases)-1]
			if !there || own < h.Lo || own > h.Hi || s.Returns != len(bases)-1 || s.Height > api.MaxStack {
				t.Fatalf("%v: %+v with %v below, heights %+v, %v", x, s, bases, h, there)
			}
			b := x.c.Codes[s.Section][s.At:]
			r.Go(1)
			if r.State() != api.Going {
				continue
			}
			bases = follow(code, bases, b, s.Height)
		}
		if faulted(r) {
			t.Fatalf("%v: a fault", x)
		}
	}
}

// follow is what lies below the words of each section that is not left, behind the instruction that stands first in b.
func follow(code *valid.Code, bases []int, b []byte, height int) []int {
	switch b[0] {
	case 0xe3, 0xe5:
		to, _ := code.Type(int(b[1])<<8 | int(b[2]))
		if b[0] == 0xe5 {
			bases = bases[:len(bases)-1]
		}
		return append(bases, height-to.In)
	case 0xe4:
		return bases[:len(bases)-1]
	}
	return bases
}
