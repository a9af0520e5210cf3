package lean_test

import (
	"slices"

	"vouch/api"
	"vouch/valid"
)

// draft is an instruction, or a row of them, that is not laid out yet: its jumps, the last that is in it, lead to blocks by their numbers, or (below 0) that many drafts behind the next one, -1 being that one.
type draft struct {
	b  []byte
	to []int
}

// sketch is a section that is being drawn: blocks, each of which begins at a height that is known ahead, whatever leads to it.
type sketch struct {
	drawing
	plan    plan
	types   []api.Type
	own     int
	drafts  []draft
	begins  []int // of each block its first draft; -1: it has not begun
	heights []int
	reached []bool // by what stands ahead of it
	block   int
	high    int
}

// plan is what may stand in a container that is drawn.
type plan struct {
	kind   int
	asks   bool // frames may be asked for
	uneven int  // of how many sections, in ten, that never return the heights are uneven
	inits  []byte
	lays   []byte
}

func (x *sketch) put(b []byte, to ...int) { x.drafts = append(x.drafts, draft{b, to}) }

// moves puts an instruction after which the stack is that much higher.
func (x *sketch) moves(by int, text string) {
	x.put(raw(text))
	x.high += by
}

// push puts what leaves a word.
func (x *sketch) push() {
	switch x.IntN(6) {
	case 0:
		x.put(x.number(1 + x.IntN(32)))
	case 1:
		x.put(raw("60 05"))
	case 2:
		if x.high > 0 {
			x.put([]byte{0x80 + byte(x.IntN(min(x.high, 16)))})
			break
		}
		fallthrough
	case 3:
		if x.high > 0 {
			x.put([]byte{0xe6, byte(x.IntN(x.high))})
			break
		}
		fallthrough
	default:
		x.put(raw("5f"))
	}
	x.high++
}

// number is a PUSH of so many bytes, few of them not 0.
func (x *sketch) number(size int) []byte {
	b := append([]byte{0x5f + byte(size)}, make([]byte, size)...)
	b[size] = byte(x.IntN(40))
	if x.IntN(4) == 0 {
		b[1+x.IntN(size)] = byte(x.Uint32())
	}
	return b
}

// to brings the stack to a height.
func (x *sketch) to(high int) {
	for x.high < high {
		x.push()
	}
	for x.high > high {
		x.moves(-1, "50")
	}
}

// condition leaves a word that is 0 or is not, as it comes; some are another one each time.
func (x *sketch) condition() {
	counted := join(raw("5f 5c 6001 01 80 5f 5d"), []byte{0x60, byte(1 + x.IntN(7))}, raw("16"))
	x.put(pick(x.drawing, raw("5f"), raw("6001"), raw("36"), raw("34"), raw("5f 35"), counted, counted, counted))
	x.high++
}

// idles puts what does nothing.
func (x *sketch) idles(deep int) {
	switch x.IntN(4) {
	case 0:
		x.put(raw("5b"))
	case 1:
		x.put(raw("e0 0000"), -1)
	default:
		x.push()
		for deep > 0 && x.IntN(2) == 0 {
			x.idles(deep - 1)
		}
		x.moves(-1, "50")
	}
}

// acts puts something.
func (x *sketch) acts() {
	switch way := x.IntN(22); {
	case way < 5:
		x.idles(3)
	case way == 5:
		x.push()
	case way == 6 && x.high > 1:
		x.put([]byte{0x90 + byte(x.IntN(min(x.high-1, 16)))})
	case way == 7 && x.high > 1:
		x.put([]byte{0xe7, byte(x.IntN(x.high - 1))})
	case way == 8 && x.high > 2:
		x.put([]byte{0xe8, byte(x.IntN(x.high - 2))})
	case way == 9 && x.high > 0:
		x.moves(-1, "50")
	case way == 10 && x.high > 1:
		x.moves(-1, pick(x.drawing, "01", "03", "10", "16"))
	case way == 11 && x.high > 2:
		x.moves(-2, "08")
	case way == 12 && x.high > 0:
		x.put(pick(x.drawing, raw("15"), raw("19"), raw("35")))
	case way == 13:
		x.condition()
	case way < 17 && x.high > 0: // a word is laid down
		x.put([]byte{0x80 + byte(x.IntN(min(x.high, 16)))})
		x.put([]byte{0x60, byte(x.IntN(4) * 16)})
		x.put(pick(x.drawing, raw("55"), raw("52"), raw("52"), raw("53"), raw("5d")))
	case way == 17 && x.high > 0:
		x.put(join([]byte{0x80 + byte(x.IntN(min(x.high, 16)))}, raw("6008 5f a1")))
	case way == 18:
		x.over(func() { x.acts() })
	case way == 19:
		x.calls(x.IntN(len(x.types)))
	case way == 20 && x.plan.asks && len(x.plan.inits) > 0:
		x.makes(pick(x.drawing, x.plan.inits...))
	case way == 21 && x.plan.asks:
		x.put(raw("5f 5f 5f 5f f8 50"))
	case way > 19: // a slot is cleared
		x.put([]byte{0x5f, 0x60, byte(x.IntN(4) * 16), 0x55})
	}
}

// over puts something that is gone over, or not; the stack is as high behind it.
func (x *sketch) over(f func()) {
	x.condition()
	jump := len(x.drafts)
	x.high--
	high := x.high
	x.put(raw("e1 0000"), 0)
	f()
	if n := len(x.drafts); !piece.ends(lastOf(x.drafts[n-1])) {
		x.to(high)
	}
	x.high = high
	x.drafts[jump].to[0] = -(len(x.drafts) - jump)
}

// lastOf is the only instruction of a draft.
func lastOf(d draft) piece { return pieces(d.b)[len(pieces(d.b))-1] }

// calls puts a CALLF, if the section returns and the stack suffices.
func (x *sketch) calls(s int) {
	t := x.types[s]
	if t.Out == never || s <= x.own && x.IntN(4) > 0 {
		return
	}
	x.to(max(x.high, t.In))
	x.put([]byte{0xe3, 0, byte(s)})
	x.high += t.Out - t.In
}

// makes puts an EOFCREATE.
func (x *sketch) makes(sub byte) {
	x.put(join(raw("5f 5f 5f 5f ec"), []byte{sub}, raw("50")))
}

// goes puts a JUMPF, if the section may go there.
func (x *sketch) goes(s int) bool {
	t, own := x.types[s], x.types[x.own]
	switch {
	case t.Out == never:
		x.to(max(x.high, t.In))
	case own.Out == never || t.Out > own.Out || s <= x.own:
		return false
	default:
		x.to(own.Out - t.Out + t.In)
	}
	x.put([]byte{0xe5, 0, byte(s)})
	return true
}

// ends puts what ends the section.
func (x *sketch) ends() {
	own := x.types[x.own]
	switch way := x.IntN(8); {
	case way == 0:
		x.put(raw("fe"))
	case way == 1 && x.goes(x.IntN(len(x.types))):
	case own.Out != never:
		x.to(own.Out)
		x.put(raw("e4"))
	case way == 2:
		x.put(raw("6020 5f fd"))
	case x.plan.kind == api.Init:
		if len(x.plan.lays) == 0 {
			x.put(raw("fe"))
			return
		}
		x.put(join(raw("6008 5f ee"), []byte{pick(x.drawing, x.plan.lays...)}))
	case way < 5:
		x.put(raw("00"))
	default:
		x.put(raw("6040 5f f3"))
	}
}

// target is a block for a jump to lead to: one that has begun, or one further on, which is reached by it. Of a given height, if that is not below 0; -1: there is none.
func (x *sketch) target(high int) int {
	for range 8 {
		k := x.block + 1 + x.IntN(3)
		if x.IntN(4) == 0 {
			k = x.IntN(x.block + 1)
		}
		if k < len(x.begins) && (k > x.block || x.begins[k] >= 0) && (high < 0 || x.heights[k] == high) {
			x.reached[k] = true
			return k
		}
	}
	return -1
}

// jumps puts a jump, if there is somewhere to go; it tells whether it ends the block.
func (x *sketch) jumps() bool {
	k := x.target(-1)
	if k < 0 {
		return false
	}
	x.to(x.heights[k])
	switch x.IntN(4) {
	case 0, 1:
		x.put(raw("e0 0000"), k)
		return true
	case 2:
		x.condition()
		x.high--
		x.put(raw("e1 0000"), k)
		return false
	}
	x.condition()
	x.high--
	to := []int{k}
	for range x.IntN(4) {
		if k := x.target(x.high); k >= 0 {
			to = append(to, k)
		}
	}
	x.Shuffle(len(to), func(i, j int) { to[i], to[j] = to[j], to[i] })
	x.put(join([]byte{0xe2, byte(len(to) - 1)}, make([]byte, 2*len(to))), to...)
	return false
}

// fills puts a block, and goes on to the next one, or not.
func (x *sketch) fills() {
	for range x.IntN(pick(x.drawing, 1, 1, 3, 6)) {
		x.acts()
	}
	for range x.IntN(3) {
		if x.jumps() {
			return
		}
	}
	if x.block+1 == len(x.begins) || x.IntN(6) == 0 {
		x.ends()
		return
	}
	x.to(x.heights[x.block+1])
	x.reached[x.block+1] = true
}

// due puts what must be named in the section.
func (x *sketch) due() {
	if s := x.own + 1; s < len(x.types) {
		if x.types[s].Out != never {
			x.to(max(x.high, x.types[s].In))
			x.put([]byte{0xe3, 0, byte(s)})
			x.high += x.types[s].Out - x.types[s].In
		} else {
			x.over(func() { x.goes(s) })
		}
	}
	if own := x.types[x.own]; own.Out != never {
		x.over(func() {
			x.to(own.Out)
			x.put(raw("e4"))
		})
	}
	if x.own > 0 {
		return
	}
	for _, sub := range x.plan.inits {
		x.makes(sub)
	}
	for _, sub := range x.plan.lays {
		x.over(func() { x.put(join(raw("5f 5f ee"), []byte{sub})) })
	}
}

// written is the section's bytes.
func (x *sketch) written() []byte {
	own := x.types[x.own]
	blocks := 1 + x.IntN(9)
	x.begins, x.reached = slices.Repeat([]int{-1}, blocks), make([]bool, blocks)
	x.heights = []int{own.In}
	usual := own.In + x.IntN(3)
	for range blocks - 1 {
		x.heights = append(x.heights, pick(x.drawing, usual, usual, usual, x.IntN(5)))
	}
	x.reached[0] = true
	if own.Out == never && x.IntN(10) < x.plan.uneven {
		x.put(raw("36"))
		x.put(raw("e1 0000"), -2)
		x.put(raw("5f"))
	}
	for k := range blocks {
		if !x.reached[k] {
			continue
		}
		x.block, x.begins[k], x.high = k, len(x.drafts), x.heights[k]
		if k == 0 {
			x.due()
			if x.high != own.In {
				x.to(own.In)
			}
		}
		x.fills()
	}
	if !piece.ends(lastOf(x.drafts[len(x.drafts)-1])) {
		x.ends()
	}
	return x.laid()
}

// laid lays the drafts out, with their jumps.
func (x *sketch) laid() []byte {
	places := []int{0}
	for i, y := range x.drafts {
		places = append(places, places[i]+len(y.b))
	}
	var out []byte
	for i, y := range x.drafts {
		b := slices.Clone(y.b)
		for n, k := range y.to {
			to := i - k
			if k >= 0 {
				to = x.begins[k]
			}
			distance := places[to] - places[i+1]
			at := len(b) - 2*(len(y.to)-n)
			b[at], b[at+1] = byte(uint16(distance)>>8), byte(distance)
		}
		out = append(out, b...)
	}
	return out
}

// container is one that is valid as the plan's kind.
func (g drawing) container(p plan) api.Container {
	for {
		c := g.sketched(p)
		if valid.Judge(c, p.kind).Code == api.OK {
			return c
		}
	}
}

// sketched is one that is valid, but for what a drawing now and then oversees.
func (g drawing) sketched(p plan) api.Container {
	c := api.Container{Types: typed(0)}
	for range g.IntN(4) {
		c.Types = append(c.Types, api.Type{In: g.IntN(4), Out: pick(g, g.IntN(4), g.IntN(4), never)})
	}
	p.inits, p.lays = nil, nil
	add := func(list *[]byte, sub []byte) {
		*list = append(*list, byte(len(c.Subs)))
		c.Subs = append(c.Subs, sub)
	}
	if p.asks && g.IntN(3) == 0 {
		add(&p.inits, pick(g, stuck(), bytesOf(with(fit(raw("5b 5f 5f ee00")), stops()))))
	}
	for p.kind == api.Init && (len(p.lays) == 0 || g.IntN(3) == 0) {
		add(&p.lays, pick(g, stops(), bytesOf(one(0, "5b 00"))))
	}
	for s := range c.Types {
		x := &sketch{drawing: g, plan: p, types: c.Types, own: s}
		c.Codes = append(c.Codes, x.written())
	}
	c.Size = pick(g, 0, 0, 5, 40)
	c.Data = g.bytes(c.Size)
	return high(c)
}
