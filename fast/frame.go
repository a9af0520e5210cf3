package fast

import (
	"vouch/api"
	"vouch/gas"
	"vouch/mach"
	"vouch/op"
	"vouch/word"
	"vouch/world"
)

// frame is what a run goes on with. What its stack and its memory can do is called through it.
type frame struct {
	*mach.Stack
	*mach.Memory
	returns    *mach.Returns
	meter      *gas.Meter
	world      *world.World
	source     source
	given      api.Frame
	data       []byte // the container's
	returnData []byte
	does       [256]func(*frame)
	costs      [256]uint64 // of each instruction that was met
	codes      [][]byte    // of each section that was entered
	section    int
	code       []byte // of the section
	at         int    // of the next step; or of the instruction that asked or ended
	next       int    // where it goes on behind the instruction; the place is what & lastPlace leaves of it
	state      int
	ask        api.Ask    // while it is Asking
	ending     api.Ending // once it has ended
}

// step makes one step.
func (f *frame) step() {
	code := f.code[f.at]
	f.next = f.at + 1
	if f.pay(f.cost(code)) {
		f.does[code](f)
	}
	if f.state == api.Going {
		f.goOn()
	}
}

// goOn comes to where it goes on.
func (f *frame) goOn() { f.at = f.next & lastPlace }

// cost is what the table says of a byte. It is asked for once: what costs nothing, and is asked for again, ends the frame.
func (f *frame) cost(code byte) uint64 {
	if f.costs[code] == 0 {
		row, _ := op.Of(int(code))
		f.costs[code] = uint64(row.Gas)
	}
	return f.costs[code]
}

// instruction is the byte of the one that is being done.
func (f *frame) instruction() int { return int(f.code[f.at]) }

// immediate is the next so many immediate bytes.
func (f *frame) immediate(size int) []byte {
	from := f.next
	f.next += size
	return f.code[from:f.next]
}

// short is the number that the next immediate byte is.
func (f *frame) short() int { return int(f.immediate(1)[0]) }

// long is the number that the next two are.
func (f *frame) long() int {
	b := f.immediate(2)
	return int(b[0])<<8 | int(b[1])
}

// halt ends the frame, as may happen to any code.
func (f *frame) halt(why int) {
	f.ending, f.state = api.Ending{Kind: api.EndHalt, Why: why}, api.Ended
}

// end ends the frame well: with what gas is left.
func (f *frame) end(x api.Ending) {
	x.Left = f.meter.Left()
	f.ending, f.state = x, api.Ended
}

// pay pays so much gas. Of this and all that pays below: false says that the frame has halted.
func (f *frame) pay(n uint64) bool {
	paid := f.meter.Pay(n)
	if !paid {
		f.halt(api.HaltGas)
	}
	return paid
}

// payFor pays for so many bytes by one of the calls that tell costs.
func (f *frame) payFor(n api.Word, cost func(n int) uint64) bool {
	size, small := word.Uint(n)
	if !small || size > api.MaxMemory {
		f.halt(api.HaltGas)
		return false
	}
	return f.pay(cost(int(size)))
}

// piece lets memory reach over n bytes at a place, and pays for what is new; these two as numbers. Of no bytes it is nothing, wherever it is.
func (f *frame) piece(at, n api.Word) (from, size int, ok bool) {
	reached, within := f.Reach(at, n)
	if !within {
		f.halt(api.HaltGas)
		return 0, 0, false
	}
	if !f.pay(gas.Memory(gas.Words(reached)) - gas.Memory(gas.Words(f.Memory.Len()))) {
		return 0, 0, false
	}
	f.Grow(reached)
	if word.IsZero(n) {
		return 0, 0, true
	}
	return int(at[0]), int(n[0]), true
}

// pieceBytes is the bytes of a piece.
func (f *frame) pieceBytes(at, n api.Word) ([]byte, bool) {
	from, size, ok := f.piece(at, n)
	if !ok {
		return nil, false
	}
	b, _ := f.Read(from, size)
	return b, true
}

// mayChange: is the frame not still? Else it has halted.
func (f *frame) mayChange() bool {
	if f.given.Still {
		f.halt(api.HaltStill)
	}
	return !f.given.Still
}

// address is the address that a word is; false: it is none, and the frame has halted.
func (f *frame) address(x api.Word) (api.Address, bool) {
	a, is := word.ToAddress(x)
	if !is {
		f.halt(api.HaltAddress)
	}
	return a, is
}

// warm makes an address warm; a cold one is paid for, and is warm also where that can't be paid.
func (f *frame) warm(a api.Address) bool {
	return f.world.Warm(a) || f.pay(api.ColdAddress)
}

// warmSlot is likewise of a slot of Self.
func (f *frame) warmSlot(key api.Word, cold uint64) bool {
	return f.world.WarmSlot(f.given.Self, key) || f.pay(cold)
}
