package step

import (
	"vouch/api"
	"vouch/gas"
	"vouch/mach"
	"vouch/op"
	"vouch/word"
)

// reckon: ADD to SAR and CLZ.
func (r *Run) reckon(i api.Instr) {
	var x [3]api.Word
	known, _ := op.Of(i.Code)
	for n := range known.In {
		x[n] = r.take()
	}
	made, _ := word.Do(i.Code, x[0], x[1], x[2])
	r.leave(made)
}

// raise: EXP.
func (r *Run) raise(i api.Instr) {
	r.pay(gas.Exp(r.Peek(2)))
	r.reckon(i)
}

// tellOfFrame: ADDRESS and all others that leave a word that the frame has.
func (r *Run) tellOfFrame(i api.Instr) { r.leave(r.wordOfFrame(i.Code)) }

// wordOfFrame is that word.
func (r *Run) wordOfFrame(code int) api.Word {
	switch code {
	case opOrigin:
		return word.FromAddress(r.frame.Origin)
	case opCaller:
		return word.FromAddress(r.frame.Caller)
	case opCallValue:
		return r.frame.Value
	case opCallDataSize:
		return count(len(r.frame.Input))
	case opGasPrice:
		return r.frame.Price
	case opReturnDataSize:
		return count(len(r.returnData))
	case opSelfBalance:
		return r.world.Balance(r.frame.Self)
	case opMSize:
		return count(r.Memory.Len())
	case opDataSize:
		return count(len(r.whole.Data))
	}
	return word.FromAddress(r.frame.Self)
}

// tellOfBlock: COINBASE and all others that leave a word that the block has.
func (r *Run) tellOfBlock(i api.Instr) { r.leave(wordOfBlock(r.frame.Block, i.Code)) }

// wordOfBlock is that word.
func wordOfBlock(b api.Block, code int) api.Word {
	switch code {
	case opTimestamp:
		return word.FromUint(b.Time)
	case opNumber:
		return word.FromUint(b.Number)
	case opPrevRandao:
		return b.Random
	case opGasLimit:
		return word.FromUint(b.Limit)
	case opChainID:
		return b.Chain
	case opBaseFee:
		return b.Base
	case opBlobBaseFee:
		return b.BlobBase
	}
	return word.FromAddress(b.Coinbase)
}

// blockHash: BLOCKHASH.
func (r *Run) blockHash(api.Instr) {
	block, small := word.Uint(r.take())
	b := r.frame.Block
	if !small || block >= b.Number {
		r.leave(api.Word{})
		return
	}
	r.leave(hashAt(b.Hashes, b.Number-1-block))
}

// blobHash: BLOBHASH.
func (r *Run) blobHash(api.Instr) {
	n, small := word.Uint(r.take())
	if !small {
		r.leave(api.Word{})
		return
	}
	r.leave(hashAt(r.frame.Blobs, n))
}

// hashAt is the hash of that number as a word; 0, if there is none.
func hashAt(l []api.Hash, n uint64) api.Word {
	if n >= uint64(len(l)) {
		return api.Word{}
	}
	return wordOf(l[n][:])
}

// pop: POP.
func (r *Run) pop(api.Instr) { r.take() }

// nothing: NOP.
func (r *Run) nothing(api.Instr) {}

// push: PUSH0 to PUSH32.
func (r *Run) push(i api.Instr) { r.leave(wordOf(i.Imm)) }

// dup: DUP1 to DUP16, DUPN.
func (r *Run) dup(i api.Instr) {
	if i.Code == opDupN {
		r.Dup(int(i.Imm[0]) + 1)
		return
	}
	r.Dup(i.Code - opDup1 + 1)
}

// swap: SWAP1 to SWAP16, SWAPN.
func (r *Run) swap(i api.Instr) {
	if i.Code == opSwapN {
		r.Swap(int(i.Imm[0]) + 1)
		return
	}
	r.Swap(i.Code - opSwap1 + 1)
}

// exchange: EXCHANGE.
func (r *Run) exchange(i api.Instr) {
	r.Exchange(int(i.Imm[0]>>4)+1, int(i.Imm[0]&0xf)+1)
}

// load: CALLDATALOAD, RETURNDATALOAD, DATALOAD.
func (r *Run) load(i api.Instr) { r.leave(rowWord(r.source(i.Code), r.take())) }

// dataWord: DATALOADN.
func (r *Run) dataWord(i api.Instr) {
	at := named(i)
	if at+wordBytes > len(r.whole.Data) {
		fault(api.FaultData)
	}
	r.leave(rowWord(r.whole.Data, count(at)))
}

// source is the bytes that an instruction loads, or copies, a row of.
func (r *Run) source(code int) []byte {
	switch code {
	case opCallDataLoad, opCallDataCopy:
		return r.frame.Input
	case opReturnDataLoad, opReturnDataCopy:
		return r.returnData
	}
	return r.whole.Data
}

// wordBytes is how many bytes a word has.
const wordBytes = 32

// rowWord is the row of 32 bytes at a place as a word.
func rowWord(b []byte, at api.Word) api.Word {
	row, _ := mach.Row(b, at, wordBytes)
	return wordOf(row)
}

// wordOf is the number that at most 32 bytes are.
func wordOf(b []byte) api.Word {
	x, _ := word.FromBytes(b)
	return x
}

// count is a number of bytes, or of anything, as a word.
func count(n int) api.Word { return word.FromUint(uint64(n)) }
