package fast_test

import (
	"slices"

	"vouch/api"
	"vouch/flow"
)

// plan is a container that is to be valid, ahead of its code.
type plan struct {
	drawing
	kind  int
	types []api.Type
	size  int
	uses  []int // of each nested container what it is to be valid as
}

// site is a section of a plan that is being written, and the heights behind what is written.
type site struct {
	*plan
	number int
	b      []byte
	lo, hi int
}

// put writes an instruction that leaves so many words more than it takes.
func (s *site) put(more int, b ...byte) {
	s.b = append(s.b, b...)
	s.lo, s.hi = s.lo+more, s.hi+more
}

// give pushes words, mostly small ones, till there are so many on top that may be taken.
func (s *site) give(words int) {
	for range words {
		if s.IntN(8) == 0 {
			s.put(1, pushed(s.word())...)
		} else {
			s.put(1, 0x60, byte(s.IntN(40)))
		}
	}
}

// raise pushes words till there are so many in all.
func (s *site) raise(words int) {
	for s.lo < words {
		s.put(1, 0x60, byte(s.IntN(12)))
	}
}

// level brings the heights, which are one, to this one.
func (s *site) level(height int) {
	s.raise(height)
	for s.lo > height {
		s.put(-1, 0x50)
	}
}

// aside writes what is jumped over or gone through, as a word says: it comes to an end of its own.
func (s *site) aside(end func()) {
	s.give(1)
	s.put(-1, 0xe1, 0, 0)
	from, lo, hi := len(s.b), s.lo, s.hi
	end()
	s.b[from-2], s.b[from-1] = byte((len(s.b)-from)>>8), byte(len(s.b)-from)
	s.lo, s.hi = lo, hi
}

// call writes what names a section: a CALLF, or aside a JUMPF, if it never returns.
func (s *site) call(section int) {
	t := s.types[section]
	if t.Out == never {
		s.aside(func() {
			s.raise(t.In)
			s.put(0, 0xe5, 0, byte(section))
		})
		return
	}
	s.raise(t.In)
	s.put(t.Out-t.In, 0xe3, 0, byte(section))
}

// use writes what names a nested container.
func (s *site) use(number int) {
	if s.uses[number] == api.Init {
		s.give(4)
		s.put(-3, 0xec, byte(number))
		return
	}
	s.aside(func() {
		s.give(2)
		s.put(-2, 0xee, byte(number))
	})
}

// halt ends without coming back.
func (s *site) halt() {
	laid := slices.Index(s.uses, api.Runtime)
	switch way := s.IntN(8); {
	case way < 3 && s.kind == api.Runtime:
		s.put(0, 0x00)
	case way == 3 && s.kind == api.Runtime:
		s.give(2)
		s.put(-2, 0xf3)
	case way < 5 && laid >= 0:
		s.give(2)
		s.put(-2, 0xee, byte(laid))
	case way < 7:
		s.give(2)
		s.put(-2, 0xfd)
	default:
		s.put(0, 0xfe)
	}
}

// comeBack ends by a return, or by a jump to a section that returns.
func (s *site) comeBack() {
	own, to := s.types[s.number], s.IntN(len(s.types))
	if t := s.types[to]; t.Out <= own.Out && s.IntN(3) == 0 {
		s.level(own.Out - t.Out + t.In)
		s.put(0, 0xe5, 0, byte(to))
		return
	}
	s.level(own.Out)
	s.put(0, 0xe4)
}

// other writes any instruction that only takes and leaves words, with words for it.
func (s *site) other() {
	row, there := table[s.IntN(256)]
	if !there || row.cost == 0 || row.imm < 0 || row.name == "EOFCREATE" || row.code == 0xd1 || row.code >= 0xe0 && row.code <= 0xe5 {
		return
	}
	imm := s.bytes(row.imm)
	if row.imm == 1 {
		imm[0] = byte(s.IntN(20))
	}
	takes, leaves := row.needs(imm)
	if s.hi+takes+leaves < 200 {
		s.give(takes)
		s.put(leaves-takes, append([]byte{byte(row.code)}, imm...)...)
	}
}

// table writes a table of jumps over some NOPs.
func (s *site) table() {
	s.give(1)
	nops, k := s.IntN(4), s.IntN(4)
	b := []byte{0xe2, byte(k)}
	for range k + 1 {
		b = append(b, 0, byte(s.IntN(nops+1)))
	}
	s.put(-1, b...)
	s.put(0, slices.Repeat([]byte{0x5b}, nops)...)
}

// turn writes a loop that counts down.
func (s *site) turn() {
	s.put(1, 0x60, byte(1+s.IntN(5)))
	at := len(s.b)
	s.put(1, 0x60, 1)
	s.put(0, 0x90)
	s.put(-1, 0x03)
	s.put(1, 0x80)
	back := at - len(s.b) - 3
	s.put(-1, 0xe1, byte(uint16(back)>>8), byte(back))
}

// either writes two ways that come together again.
func (s *site) either() {
	s.give(1)
	s.put(-1, 0xe1, 0, 4)
	s.put(0, 0x5b, 0xe0, 0, 1, 0x5b)
}

// fork writes a jump over one instruction, so that there are two heights behind it.
func (s *site) fork() {
	s.give(1)
	s.put(-1, 0xe1, 0, 1)
	if s.lo > 0 && s.IntN(2) == 0 {
		s.b, s.lo = append(s.b, 0x50), s.lo-1
		return
	}
	s.b, s.hi = append(s.b, 0x5f), s.hi+1
}

// some writes a few instructions of any kind.
func (s *site) some() {
	for range s.IntN(8) {
		s.other()
	}
	returns := s.types[s.number].Out != never
	switch s.IntN(10) {
	case 0:
		if s.size >= 32 {
			s.put(1, 0xd1, 0, byte(s.IntN(s.size-31)))
		}
	case 1:
		s.table()
	case 2, 3:
		s.turn()
	case 4:
		s.aside(s.halt)
	case 5, 6:
		s.call(s.IntN(len(s.types)))
	case 7:
		if !returns {
			s.fork()
		}
	case 8:
		if returns {
			s.aside(s.comeBack)
		}
	case 9:
		s.either()
	}
}

// written is the code of a section that names these sections and nested containers.
func (p *plan) written(number int, calls, subs []int) []byte {
	in := p.types[number].In
	s := &site{plan: p, number: number, lo: in, hi: in}
	var due []func()
	for _, to := range calls {
		due = append(due, func() { s.call(to) })
	}
	for _, sub := range subs {
		due = append(due, func() { s.use(sub) })
	}
	for range 1 + p.IntN(4) {
		due = append(due, s.some)
	}
	p.Shuffle(len(due), func(i, j int) { due[i], due[j] = due[j], due[i] })
	for _, write := range due {
		write()
	}
	if p.types[number].Out == never {
		s.halt()
	} else {
		s.comeBack()
	}
	return s.b
}

// container is one that is valid as a kind, and whole, or open, if that is asked for; with others nested in it, if they are.
func (d drawing) container(kind int, nested, open bool) api.Container {
	count := 1 + d.IntN(5)
	p := &plan{drawing: d, kind: kind, types: []api.Type{{Out: never}}, size: pick(d, []int{0, 31, 32, 40, 90})}
	for range count - 1 {
		p.types = append(p.types, api.Type{In: d.IntN(4), Out: pick(d, []int{0, 1, 2, 3, never})})
	}
	calls, subs := make([][]int, count), make([][]int, count)
	for section := 1; section < count; section++ { // each is named by one ahead of it
		by := d.IntN(section)
		calls[by] = append(calls[by], section)
	}
	if nested {
		for i := range d.IntN(3) {
			use := api.Init
			if kind == api.Init && d.IntN(2) == 0 {
				use = api.Runtime
			}
			p.uses = append(p.uses, use)
			by := d.IntN(count)
			subs[by] = append(subs[by], i)
		}
	}
	c := api.Container{Types: slices.Clone(p.types), Size: p.size, Data: d.bytes(p.size)}
	if open {
		c.Data = c.Data[:d.IntN(p.size+1)]
	}
	for number := range p.types {
		c.Codes = append(c.Codes, p.written(number, calls[number], subs[number]))
	}
	for number, b := range c.Codes {
		told, _, _ := flow.Heights(p.types, number, b)
		c.Types[number].Most = flow.Most(told)
	}
	for _, use := range p.uses {
		c.Subs = append(c.Subs, bytesOf(d.container(use, false, use == api.Runtime)))
	}
	return c
}
