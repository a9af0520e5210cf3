package step

import (
	"vouch/api"
	"vouch/gas"
	"vouch/mach"
	"vouch/sponge"
	"vouch/word"
)

// hash: KECCAK256.
func (r *Run) hash(api.Instr) {
	at, n := r.take(), r.take()
	r.payFor(n, gas.Hash)
	h := sponge.Sum(r.pieceBytes(at, n))
	r.leave(wordOf(h[:]))
}

// memoryLoad: MLOAD.
func (r *Run) memoryLoad(api.Instr) {
	from, _ := r.piece(r.take(), count(wordBytes))
	x, _ := r.Load(from)
	r.leave(x)
}

// memoryStore: MSTORE.
func (r *Run) memoryStore(api.Instr) {
	at, x := r.take(), r.take()
	from, _ := r.piece(at, count(wordBytes))
	r.Store(from, x)
}

// byteStore: MSTORE8.
func (r *Run) byteStore(api.Instr) {
	at, x := r.take(), r.take()
	from, _ := r.piece(at, count(1))
	r.Store8(from, byte(x[0]))
}

// copyIn: CALLDATACOPY, RETURNDATACOPY, DATACOPY.
func (r *Run) copyIn(i api.Instr) {
	to, at, n := r.take(), r.take(), r.take()
	r.payFor(n, gas.Copy)
	from, many := r.piece(to, n)
	row, _ := mach.Row(r.source(i.Code), at, many)
	r.Write(from, row)
}

// move: MCOPY.
func (r *Run) move(api.Instr) {
	to, from, n := r.take(), r.take(), r.take()
	r.payFor(n, gas.Copy)
	further := to
	if word.Gt(from, to) {
		further = from
	}
	if _, many := r.piece(further, n); many > 0 {
		r.Move(number(to), number(from), many)
	}
}

// log: LOG0 to LOG4.
func (r *Run) log(i api.Instr) {
	at, n := r.take(), r.take()
	topics := make([]api.Word, i.Code-opLog0)
	for k := range topics {
		topics[k] = r.take()
	}
	r.payFor(n, gas.Log)
	r.world.Tell(api.Log{Address: r.frame.Self, Topics: topics, Data: r.pieceBytes(at, n)})
}

// stop: STOP.
func (r *Run) stop(api.Instr) { r.end(api.Ending{Kind: api.EndStop}) }

// giveBack: RETURN, REVERT.
func (r *Run) giveBack(i api.Instr) {
	kind := api.EndReturn
	if i.Code == opRevert {
		kind = api.EndRevert
	}
	at, n := r.take(), r.take()
	r.end(api.Ending{Kind: kind, Output: r.pieceBytes(at, n)})
}

// giveUp: INVALID.
func (r *Run) giveUp(api.Instr) { halt(api.HaltInvalid) }
