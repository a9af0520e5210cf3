package fast

import (
	"vouch/api"
	"vouch/gas"
	"vouch/mach"
	"vouch/sponge"
	"vouch/word"
)

// wordBytes is how many bytes a word has.
const wordBytes = 32

func (f *frame) keccak256() {
	at, n := f.Take(), f.Take()
	if !f.payFor(n, gas.Hash) {
		return
	}
	if b, ok := f.pieceBytes(at, n); ok {
		h := sponge.Sum(b)
		f.Put(wordOf(h[:]))
	}
}

func (f *frame) mLoad() {
	if from, _, ok := f.piece(f.Take(), count(wordBytes)); ok {
		x, _ := f.Load(from)
		f.Put(x)
	}
}

func (f *frame) mStore() {
	at, x := f.Take(), f.Take()
	if from, _, ok := f.piece(at, count(wordBytes)); ok {
		f.Store(from, x)
	}
}

func (f *frame) mStore8() {
	at, x := f.Take(), f.Take()
	if from, _, ok := f.piece(at, count(1)); ok {
		f.Store8(from, byte(x[0]))
	}
}

func (f *frame) mCopy() {
	to, from, n := f.Take(), f.Take(), f.Take()
	further := to
	if word.Gt(from, to) {
		further = from
	}
	if !f.payFor(n, gas.Copy) {
		return
	}
	if _, size, ok := f.piece(further, n); ok && size > 0 {
		f.Move(int(to[0]), int(from[0]), size)
	}
}

// load leaves the row of 32 bytes at the topmost word.
func (f *frame) load(b []byte) { f.Put(rowWord(b, f.Take())) }

func (f *frame) callDataLoad()   { f.load(f.given.Input) }
func (f *frame) returnDataLoad() { f.load(f.returnData) }
func (f *frame) dataLoad()       { f.load(f.data) }
func (f *frame) dataLoadN()      { f.Put(rowWord(f.data, count(f.long()))) }

// rowWord is the row of 32 bytes at a place as a word.
func rowWord(b []byte, at api.Word) api.Word {
	row, _ := mach.Row(b, at, wordBytes)
	return wordOf(row)
}

// copyIn copies a row of these bytes into memory.
func (f *frame) copyIn(b []byte) {
	to, at, n := f.Take(), f.Take(), f.Take()
	if !f.payFor(n, gas.Copy) {
		return
	}
	if from, size, ok := f.piece(to, n); ok {
		row, _ := mach.Row(b, at, size)
		f.Write(from, row)
	}
}

func (f *frame) callDataCopy()   { f.copyIn(f.given.Input) }
func (f *frame) returnDataCopy() { f.copyIn(f.returnData) }
func (f *frame) dataCopy()       { f.copyIn(f.data) }

// log: LOG0 to LOG4.
func (f *frame) log() {
	at, n := f.Take(), f.Take()
	topics := make([]api.Word, f.instruction()-log0)
	for i := range topics {
		topics[i] = f.Take()
	}
	if !f.mayChange() || !f.payFor(n, gas.Log) {
		return
	}
	if b, ok := f.pieceBytes(at, n); ok {
		f.world.Tell(api.Log{Address: f.given.Self, Topics: topics, Data: b})
	}
}

func (f *frame) stop() { f.end(api.Ending{Kind: api.EndStop}) }

// giveBack: RETURN.
func (f *frame) giveBack() { f.endWith(api.EndReturn) }

func (f *frame) revert() { f.endWith(api.EndRevert) }

// endWith ends the frame with a piece of memory.
func (f *frame) endWith(kind int) {
	at, n := f.Take(), f.Take()
	if b, ok := f.pieceBytes(at, n); ok {
		f.end(api.Ending{Kind: kind, Output: b})
	}
}

func (f *frame) invalid() { f.halt(api.HaltInvalid) }
