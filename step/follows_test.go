package step_test

import (
	"slices"
	"testing"

	"vouch/api"
	"vouch/code"
	"vouch/flow"
	"vouch/step"
	"vouch/valid"
	"vouch/world"
)

// validFrame is a frame of a valid container.
func (d drawing) validFrame() *frame {
	x := d.frame()
	x.c = d.container(x.f.Kind, true, false)
	if d.IntN(3) > 0 {
		x.f.Gas = api.MaxGas
	}
	return x
}

// gives answers a run that asks.
func (d drawing) gives(t *testing.T, r *step.Run) {
	t.Helper()
	ask, _ := r.Asked()
	if wrong := r.Give(d.reply(ask)); wrong != api.OK {
		t.Fatal(wrong)
	}
}

// 12.9: Go(a), then Go(b) is Go(a and b together), in whatever pieces; zeros among them are nothing.
func TestByPieces(t *testing.T) {
	d := draw(9)
	for i := range 2000 {
		x := d.program()
		if i%2 == 0 {
			x = d.validFrame()
		}
		seed := d.Uint64()
		whole, w := x.begun(t)
		parts, twin := x.begun(t)
		first, second := draw(seed), draw(seed)
		for total := 0; total < 400 && whole.State() != api.Ended; {
			if whole.State() == api.Asking {
				first.gives(t, whole)
				second.gives(t, parts)
			}
			a, b := d.IntN(5), d.IntN(20)
			want := whole.Go(a + b)
			if got := parts.Go(a) + parts.Go(b); got != want || parts.Sight() != whole.Sight() {
				t.Fatalf("%v: Go(%d), then Go(%d): %d steps, %+v, not %d, %+v", x, a, b, got, parts.Sight(), want, whole.Sight())
			}
			total += a + b
		}
		if seen(w) != seen(twin) {
			t.Fatalf("%v: two worlds", x)
		}
	}
}

// 12.9: a step that neither ends nor asks costs at least 1 gas; one that asks at least 100, beside what passes. So a run makes at most one step more than its gas. 12.10: the gas is never above what it began with, and memory has cost what its words cost.
func TestGasGoesDown(t *testing.T) {
	d := draw(10)
	asks := 0
	for i := range 3000 {
		x := d.program()
		if i%2 == 0 {
			x = d.validFrame()
		}
		p := x.paired(t)
		for range 400 {
			if p.m.state == api.Asking {
				p.give(d.reply(p.m.ask))
			}
			if p.m.state == api.Ended {
				break
			}
			was := p.r.Sight().Left
			p.step()
			now := p.r.Sight()
			ask, asking := p.r.Asked()
			switch {
			case asking:
				asks++
				if was < now.Left+ask.Gas+100 {
					t.Fatalf("%v: it asks, %d were left, %d are, %d pass", x, was, now.Left, ask.Gas)
				}
			case now.State == api.Going && now.Left+1 > was:
				t.Fatalf("%v: %d were left, %d are", x, was, now.Left)
			}
			if now.Left > x.f.Gas {
				t.Fatalf("%v: %d are left", x, now.Left)
			}
			if now.State != api.Ended && p.m.memories != memoryCost(now.Memory/32) {
				t.Fatalf("%v: memory of %d bytes has cost %d", x, now.Memory, p.m.memories)
			}
		}
	}
	if asks < 150 {
		t.Errorf("only %d asks", asks)
	}
}

// W3: a run makes at most one step more than its gas, and just so many where each costs 1.
func TestAtMostOneStepMore(t *testing.T) {
	for _, gas := range []uint64{0, 1, 2, 50} {
		nops := of(slices.Repeat([]byte{0x5b}, 100)).gas(gas)
		nops.ends(t, int(gas)+1, int(gas), halted(api.HaltGas))
	}
	d := draw(11)
	for range 1000 {
		x := d.validFrame().gas(uint64(d.IntN(300)))
		r, _ := x.begun(t)
		made := r.Go(many)
		for r.State() == api.Asking {
			d.gives(t, r)
			made += r.Go(many)
		}
		if made > int(x.f.Gas)+1 {
			t.Fatalf("%v: %d steps", x, made)
		}
	}
}

// 12.10: whatever is answered, all that was left comes back at most.
func TestGasWithAllGivenBack(t *testing.T) {
	loop := slices.Concat(raw("5b"), pushed(numbers(10, 0, 0, 0)...), raw("f8 50"), pushed(numbers(0, 0, 0, 0)...), raw("ec00 50 e0"))
	back := -(len(loop) + 2)
	x := rich(loop, []byte{byte(uint16(back) >> 8), byte(back)}).gas(1 << 20)
	r, _ := x.begun(t)
	asks := 0
	for r.State() != api.Ended {
		r.Go(many)
		if ask, ok := r.Asked(); ok {
			asks++
			r.Give(api.Reply{Left: ask.Gas})
		}
		if left := r.Sight().Left; left > 1<<20 {
			t.Fatalf("%d are left", left)
		}
	}
	if end, _ := r.Ended(); !alikeEnds(end, halted(api.HaltGas)) || asks < 50 {
		t.Errorf("%+v behind %d asks", end, asks)
	}
}

// watch is a frame of valid code, of which the places and the heights are known.
type watch struct {
	*step.Run
	x       *frame
	heights map[api.Place]api.Height
	bases   []int // of each section that is not left yet: how many words lay below those that it took
}

func (x *frame) watched(r *step.Run) *watch {
	v := &watch{Run: r, x: x, heights: map[api.Place]api.Height{}, bases: []int{0}}
	for s, b := range x.c.Codes {
		told, _, _ := flow.Heights(x.c.Types, s, b)
		for _, h := range told {
			v.heights[api.Place{Section: s, At: h.At}] = h
		}
	}
	return v
}

// looks: an instruction begins at the place, and the words are as many as its heights say (8.8).
func (v *watch) looks(t *testing.T) {
	t.Helper()
	s := v.Sight()
	h, there := v.heights[api.Place{Section: s.Section, At: s.At}]
	own := s.Height - v.bases[len(v.bases)-1]
	if !there || own < h.Lo || own > h.Hi || s.Height > api.MaxStack || s.Returns != len(v.bases)-1 {
		t.Fatalf("%v: %+v with %v below, heights %+v, %v", v.x, s, v.bases, h, there)
	}
}

// step makes one step, and knows where it leads.
func (v *watch) step() {
	s := v.Sight()
	i, _ := code.One(v.x.c.Codes[s.Section], s.At)
	v.Go(1)
	if v.State() != api.Going {
		return
	}
	to, _ := code.Named(i)
	switch table[i.Code].name {
	case "CALLF":
		v.bases = append(v.bases, s.Height-v.x.c.Types[to].In)
	case "JUMPF":
		v.bases[len(v.bases)-1] = s.Height - v.x.c.Types[to].In
	case "RETF":
		v.bases = v.bases[:len(v.bases)-1]
	}
}

// 12.11, W1: a valid container comes to no fault, whatever it is answered; the place is one where an instruction begins, and the words are those of 8.8; HaltRoom comes at a CALLF or a JUMPF alone.
func TestValidCodeNeverFaults(t *testing.T) {
	d := draw(12)
	steps, returns := 0, 0
	ends := map[int]int{}
	for range 2000 {
		x := d.validFrame()
		if no := valid.Judge(x.c, x.f.Kind); no.Code != api.OK {
			t.Fatalf("%v is not valid: %+v", x, no)
		}
		r, _ := x.begun(t)
		v := x.watched(r)
		for made := 0; made < 1500 && v.State() != api.Ended; made++ {
			if v.State() == api.Asking {
				d.gives(t, r)
			}
			v.looks(t)
			v.step()
			steps++
			returns = max(returns, r.Sight().Returns)
		}
		end, _ := v.Ended()
		ends[end.Kind]++
		if s := v.Sight(); end.Kind == api.EndFault || end.Why == api.HaltRoom && !slices.Contains([]byte{0xe3, 0xe5}, x.c.Codes[s.Section][s.At]) {
			t.Fatalf("%v: %+v, %+v", x, end, s)
		}
	}
	for _, kind := range []int{api.EndStop, api.EndReturn, api.EndDeploy, api.EndRevert, api.EndHalt} {
		if ends[kind] < 20 {
			t.Errorf("%d ends of kind %d", ends[kind], kind)
		}
	}
	if steps < 50000 || returns < 5 {
		t.Errorf("only %d steps, %d places", steps, returns)
	}
}

// The machine over drawn valid containers: the run and the model go alike.
func TestDrawnValidCode(t *testing.T) {
	d := draw(13)
	for range 1500 {
		d.validFrame().paired(t).whole(d, 500)
	}
}

// 12.11: a stack grows up to MaxStack in valid code, and HaltRoom alone ends it.
func TestValidCodeFillsTheStack(t *testing.T) {
	x := coded("e3 0001 00").section(api.Type{Most: 1023}, append(zeros(1023), append(slices.Repeat([]byte{0x50}, 1023), 0xe4)...))
	x.gas(20000)
	if no := valid.Judge(x.c, api.Runtime); no.Code != api.OK {
		t.Fatalf("%+v", no)
	}
	x.endsSo(t, api.Ending{Kind: api.EndStop, Left: 20000 - 5 - 2*1023 - 2*1023 - 3})
	deep := coded("5f e3 0001 50 00").section(api.Type{In: 1, Out: 1, Most: 2}, raw("5f e3 0001 50 e4")).gas(200000)
	deep.c.Types[0].Most = 1
	if no := valid.Judge(deep.c, api.Runtime); no.Code != api.OK {
		t.Fatalf("%+v", no)
	}
	r, _ := deep.begun(t)
	most := 0
	for r.State() == api.Going {
		r.Go(1)
		most = max(most, r.Sight().Height)
	}
	if end, _ := r.Ended(); !alikeEnds(end, halted(api.HaltRoom)) || most != 1024 {
		t.Errorf("%+v, at most %d words", end, most)
	}
}

// kept is what a still frame may not change: all but what is warm.
func kept(w *world.World, keys []api.Word) string {
	mark := w.Mark()
	for _, a := range addresses() {
		w.Warm(a)
	}
	for _, k := range keys {
		w.WarmSlot(self, k)
	}
	text := worldText(w, addresses(), keys)
	w.Back(mark)
	return text
}

// 12.12, W12: a still frame stores nothing, tells no log, asks for no account and for no call with a value: balances, slots, transient slots, logs and refund are behind it what they were.
func TestStillFramesChangeNothing(t *testing.T) {
	d := draw(14)
	still, asks := 0, 0
	for i := range 3000 {
		x := d.program()
		if i%2 == 0 {
			x = d.validFrame()
		}
		x.still()
		w := x.made(t)
		w.Set(self, n(2), n(3))
		w.TSet(self, n(1), n(4))
		w.Owe(50)
		w.Tell(api.Log{Address: addr(1), Topics: numbers(1)})
		before := kept(w, keys())
		r := x.over(t, w)
		for range 300 {
			r.Go(1)
			if ask, ok := r.Asked(); ok {
				asks++
				if ask.Kind == api.AskMake || ask.Value != (api.Word{}) {
					t.Fatalf("%v asks for %+v", x, ask)
				}
				d.gives(t, r)
			}
		}
		if after := kept(w, keys()); after != before {
			t.Fatalf("%v:\n%s\nnot\n%s", x, after, before)
		}
		if end, _ := r.Ended(); end.Why == api.HaltStill {
			still++
		}
	}
	if still < 100 || asks < 20 {
		t.Errorf("only %d halted for it, %d asks", still, asks)
	}
}
