package fast

import (
	"vouch/api"
	"vouch/word"
)

func (f *frame) rJump() { f.jump(f.immediate(2)) }

func (f *frame) rJumpI() {
	distance := f.immediate(2)
	if !word.IsZero(f.Take()) {
		f.jump(distance)
	}
}

func (f *frame) rJumpV() {
	last := f.short()
	distances := f.immediate(2 * (last + 1))
	if n, small := word.Uint(f.Take()); small && n <= uint64(last) {
		f.jump(distances[2*n:])
	}
}

// jump goes on by the distance that stands first in these bytes.
func (f *frame) jump(b []byte) {
	f.next += int(int16(b[0])<<8 | int16(b[1]))
}

func (f *frame) callF() {
	to := f.named()
	if !f.room(to) {
		return
	}
	if f.returns.Len() >= api.MaxReturns {
		f.halt(api.HaltReturns)
		return
	}
	f.returns.Put(api.Place{Section: f.section, At: f.next})
	f.enter(api.Place{Section: to})
}

func (f *frame) jumpF() {
	if to := f.named(); f.room(to) {
		f.enter(api.Place{Section: to})
	}
}

func (f *frame) retF() { f.enter(f.returns.Take()) }

// named is the section that an instruction names: a number that none has comes round to one that has.
func (f *frame) named() int { return f.long() % len(f.codes) }

// room: is there room for the most words that a section may have? Else the frame has halted.
func (f *frame) room(section int) bool {
	t := f.source.typeOf(section)
	if f.Stack.Len()-t.In+t.Most > api.MaxStack {
		f.halt(api.HaltRoom)
		return false
	}
	return true
}

// enter goes on at a place of any section, whose bytes are kept from then on.
func (f *frame) enter(p api.Place) {
	if f.codes[p.Section] == nil {
		f.codes[p.Section] = f.source.codeOf(p.Section)
	}
	f.section, f.code, f.next = p.Section, f.codes[p.Section], p.At
}
