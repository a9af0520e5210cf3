package valid_test

import (
	"math/rand/v2"
	"slices"
	"testing"

	"vouch/api"
	"vouch/flow"
	"vouch/op"
)

// plan is a valid container ahead of its code.
type plan struct {
	d     *rand.Rand
	kind  int
	types []api.Type
	size  int
	uses  []int   // of each nested container what it is to be valid as
	calls [][]int // of each section those that it has to name
	subs  [][]int // of each section the nested containers that it has to name
}

// site is a section of a plan that is being written, and the heights behind what is written.
type site struct {
	*plan
	number int
	b      []byte
	lo, hi int
}

// own is the section's type.
func (s *site) own() api.Type { return s.types[s.number] }

// put writes an instruction that leaves so many words more than it takes.
func (s *site) put(more int, b ...byte) {
	s.b = append(s.b, b...)
	s.lo, s.hi = s.lo+more, s.hi+more
}

// raise pushes words till there are so many.
func (s *site) raise(words int) {
	for s.lo < words {
		s.put(1, 0x5f)
	}
}

// level brings the heights, which are one, to this one.
func (s *site) level(height int) {
	s.raise(height)
	for s.lo > height {
		s.put(-1, 0x50)
	}
}

// aside writes what may be jumped over: it comes to an end of its own.
func (s *site) aside(end func()) {
	s.put(1, 0x5f)
	s.put(-1, 0xe1, 0, 0)
	from, lo, hi := len(s.b), s.lo, s.hi
	end()
	s.b[from-2], s.b[from-1] = byte((len(s.b)-from)>>8), byte(len(s.b)-from)
	s.lo, s.hi = lo, hi
}

// name writes an instruction that names a section, with the words that it takes.
func (s *site) name(code byte, section int) {
	t := s.types[section]
	s.raise(t.In)
	s.put(t.Out-t.In, code, byte(section>>8), byte(section))
}

// call writes what names a section: a CALLF, or aside a JUMPF, if it never returns.
func (s *site) call(section int) {
	if s.types[section].Out == never {
		s.aside(func() { s.name(0xe5, section) })
		return
	}
	s.name(0xe3, section)
}

// use writes what names a nested container.
func (s *site) use(n int) {
	if s.uses[n] == api.Init {
		s.raise(4)
		s.put(-3, 0xec, byte(n))
		return
	}
	s.aside(func() { s.lay(n) })
}

// lay ends with a nested container.
func (s *site) lay(n int) {
	s.raise(2)
	s.put(-2, 0xee, byte(n))
}

// halt ends without coming back.
func (s *site) halt() {
	laid := slices.Index(s.uses, api.Runtime)
	switch way := s.d.IntN(6); {
	case way == 0 && s.kind == api.Runtime:
		s.put(0, 0x00)
	case way == 1 && s.kind == api.Runtime:
		s.raise(2)
		s.put(-2, 0xf3)
	case way < 3 && laid >= 0:
		s.lay(laid)
	case way < 4:
		s.raise(2)
		s.put(-2, 0xfd)
	case way < 5:
		s.put(0, 0xe0, 0xff, 0xfd)
	default:
		s.put(0, 0xfe)
	}
}

// comeBack ends by a return, or by a jump to a section that returns.
func (s *site) comeBack() {
	to := s.d.IntN(len(s.types))
	if t := s.types[to]; t.Out <= s.own().Out && s.d.IntN(3) == 0 {
		s.level(s.own().Out - t.Out + t.In)
		s.put(0, 0xe5, byte(to>>8), byte(to))
		return
	}
	s.level(s.own().Out)
	s.put(0, 0xe4)
}

// other writes any instruction that only takes and leaves words, if there are enough for it.
func (s *site) other() {
	row, ok := op.Of(s.d.IntN(256))
	if !ok || row.Ends || row.Imm == api.Table || slices.Contains([]int{0xd1, 0xe1, 0xe3, 0xec}, row.Code) {
		return
	}
	imm := make([]byte, row.Imm)
	for i := range imm {
		imm[i] = byte(s.d.IntN(4) * s.d.IntN(90))
	}
	takes, leaves, _ := op.Needs(row.Code, imm)
	if takes <= s.lo && s.hi-takes+leaves < 60 {
		s.put(leaves-takes, append([]byte{byte(row.Code)}, imm...)...)
	}
}

// load writes a DATALOADN, if the data are long enough for one.
func (s *site) load() {
	if s.size >= 32 {
		at := s.d.IntN(s.size - 31)
		s.put(1, 0xd1, byte(at>>8), byte(at))
	}
}

// table writes a table of jumps over some NOPs.
func (s *site) table() {
	s.put(1, 0x5f)
	nops, k := s.d.IntN(4), s.d.IntN(4)
	b := []byte{0xe2, byte(k)}
	for range k + 1 {
		b = append(b, 0, byte(s.d.IntN(nops+1)))
	}
	s.put(-1, b...)
	s.put(0, slices.Repeat([]byte{0x5b}, nops)...)
}

// turn writes a jump back to where the heights are the same.
func (s *site) turn() {
	at := len(s.b)
	s.put(0, 0x5b)
	s.put(1, 0x5f)
	back := at - len(s.b) - 3
	s.put(-1, 0xe1, byte(uint16(back)>>8), byte(back))
}

// fork writes a jump over one instruction, so that there are two heights behind it.
func (s *site) fork() {
	s.put(1, 0x5f)
	s.put(-1, 0xe1, 0, 1)
	if s.lo > 0 && s.d.IntN(2) == 0 {
		s.b, s.lo = append(s.b, 0x50), s.lo-1
		return
	}
	s.b, s.hi = append(s.b, 0x5f), s.hi+1
}

// some writes a few instructions of any kind.
func (s *site) some() {
	for range s.d.IntN(6) {
		s.other()
	}
	switch s.d.IntN(8) {
	case 0:
		s.load()
	case 1:
		s.table()
	case 2:
		s.turn()
	case 3:
		s.aside(s.halt)
	case 4:
		s.aside(func() { s.fork(); s.halt() })
	case 5:
		s.call(s.d.IntN(len(s.types)))
	case 6:
		if s.own().Out == never {
			s.fork()
		}
	case 7:
		if s.own().Out != never {
			s.aside(s.comeBack)
		}
	}
}

// written is the code of a section.
func (p *plan) written(number int) []byte {
	in := p.types[number].In
	s := &site{plan: p, number: number, lo: in, hi: in}
	var due []func()
	for _, to := range p.calls[number] {
		due = append(due, func() { s.call(to) })
	}
	for _, n := range p.subs[number] {
		due = append(due, func() { s.use(n) })
	}
	for range p.d.IntN(4) {
		due = append(due, s.some)
	}
	p.d.Shuffle(len(due), func(i, j int) { due[i], due[j] = due[j], due[i] })
	for _, write := range due {
		write()
	}
	if s.own().Out == never {
		s.halt()
	} else {
		s.comeBack()
	}
	return s.b
}

// planned is a plan: each section is named by one that is reached, each nested container by some section.
func planned(d *rand.Rand, kind int, nested bool) *plan {
	n := 1 + d.IntN(6)
	p := &plan{d: d, kind: kind, types: typed(0, never, 0), calls: make([][]int, n), subs: make([][]int, n)}
	p.size = []int{0, 10, 31, 32, 33, 64, 300}[d.IntN(7)]
	for range n - 1 {
		p.types = append(p.types, api.Type{In: d.IntN(4), Out: d.IntN(4)})
		if d.IntN(3) == 0 {
			p.types[len(p.types)-1].Out = never
		}
	}
	reached := []int{0}
	for _, section := range d.Perm(n) {
		if section != 0 {
			by := reached[d.IntN(len(reached))]
			p.calls[by] = append(p.calls[by], section)
			reached = append(reached, section)
		}
	}
	many := d.IntN(4)
	if !nested {
		many = 0
	}
	for i := range many {
		use := api.Init
		if kind == api.Init && d.IntN(2) == 0 {
			use = api.Runtime
		}
		p.uses = append(p.uses, use)
		by := d.IntN(n)
		p.subs[by] = append(p.subs[by], i)
	}
	return p
}

// drawn is a container that is valid as a kind, with others nested in it so deep; its data are as long as is declared, or shorter, if it is open.
func drawn(d *rand.Rand, kind, depth int, open bool) api.Container {
	p := planned(d, kind, depth > 0)
	c := api.Container{Types: slices.Clone(p.types)}
	for number := range p.types {
		c.Codes = append(c.Codes, p.written(number))
	}
	for number, b := range c.Codes {
		told, _, _ := flow.Heights(p.types, number, b)
		c.Types[number].Most = flow.Most(told)
	}
	for _, use := range p.uses {
		c.Subs = append(c.Subs, bytesOf(drawn(d, use, depth-1, use == api.Runtime)))
	}
	there := p.size
	if open {
		there = d.IntN(p.size + 1)
	}
	return declared(c, p.size, there)
}

// kinds are both.
var kinds = []int{api.Runtime, api.Init}

// 8.1, 8.2, W6: containers in which no clause is broken are taken, nested ones and all.
func TestDrawnValid(t *testing.T) {
	d := chance(1)
	met := map[string]int{}
	for range 1000 {
		kind := kinds[d.IntN(2)]
		c := drawn(d, kind, d.IntN(4), d.IntN(3) == 0)
		judged(t, "drawn", c, kind, api.Reject{})
		if t.Failed() {
			return
		}
		if len(c.Codes) > 3 {
			met["sections"]++
		}
		if len(c.Subs) > 1 {
			met["nested"]++
		}
		if len(c.Data) < c.Size {
			met["open"]++
		}
	}
	for _, what := range []string{"sections", "nested", "open"} {
		if met[what] < 100 {
			t.Errorf("%s: only %d", what, met[what])
		}
	}
}
