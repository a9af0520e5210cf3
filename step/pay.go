package step

import (
	"vouch/api"
	"vouch/gas"
	"vouch/word"
)

// pay pays so much gas.
func (r *Run) pay(n uint64) {
	if !r.meter.Pay(n) {
		halt(api.HaltGas)
	}
}

// payFor pays for so many bytes by one of the calls that tell costs.
func (r *Run) payFor(n api.Word, cost func(n int) uint64) {
	count, small := word.Uint(n)
	if !small || count > api.MaxMemory {
		halt(api.HaltGas)
	}
	r.pay(cost(int(count)))
}

// piece lets memory reach over n bytes at a place, and pays for what is new; these two as numbers. Of no bytes it is nothing, wherever it is.
func (r *Run) piece(at, n api.Word) (from, count int) {
	size, reached := r.Reach(at, n)
	if !reached {
		halt(api.HaltGas)
	}
	r.pay(gas.Memory(gas.Words(size)) - gas.Memory(gas.Words(r.Memory.Len())))
	r.Grow(size)
	if word.IsZero(n) {
		return 0, 0
	}
	return number(at), number(n)
}

// pieceBytes is the bytes of a piece.
func (r *Run) pieceBytes(at, n api.Word) []byte {
	from, count := r.piece(at, n)
	b, _ := r.Read(from, count)
	return b
}

// warm makes an address warm; a cold one is paid for, and is warm also where that can't be paid.
func (r *Run) warm(a api.Address) {
	if !r.world.Warm(a) {
		r.pay(api.ColdAddress)
	}
}

// warmSlot is likewise of a slot of Self.
func (r *Run) warmSlot(key api.Word, cold uint64) {
	if !r.world.WarmSlot(r.frame.Self, key) {
		r.pay(cold)
	}
}

// address is the address that a word is.
func address(x api.Word) api.Address {
	a, is := word.ToAddress(x)
	if !is {
		halt(api.HaltAddress)
	}
	return a
}

// number is a word that is known to be below any int.
func number(x api.Word) int {
	n, _ := word.Uint(x)
	return int(n)
}
