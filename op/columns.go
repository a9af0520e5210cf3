package op

import "vouch/api"

// Each of these is a column of the table, for codes that stand in it.

// immOf: how many immediate bytes.
func immOf(code int) int {
	switch code {
	case opRJumpV:
		return api.Table
	case opDataLoadN, opRJump, opRJumpI, opCallF, opJumpF:
		return 2
	case opDupN, opSwapN, opExchange, opEOFCreate, opReturnCode:
		return 1
	}
	if opPush1 <= code && code <= opPush32 {
		return code - opPush1 + 1
	}
	return 0
}

// inOf: how many words are taken. Each case takes one word more than the next one, and falls through to it.
func inOf(code int) int {
	words := 0
	switch code {
	case opLog4:
		words++
		fallthrough
	case opLog3:
		words++
		fallthrough
	case opLog2, opEOFCreate, opExtCall:
		words++
		fallthrough
	case opLog1, opAddMod, opMulMod, opCallDataCopy, opReturnDataCopy, opMCopy, opDataCopy, opExchange, opExtDelegateCall, opExtStaticCall:
		words++
		fallthrough
	case opLog0, opAdd, opMul, opSub, opDiv, opSDiv, opMod, opSMod, opExp, opSignExtend,
		opLt, opGt, opSLt, opSGt, opEq, opAnd, opOr, opXor, opByte, opShl, opShr, opSar, opKeccak256,
		opMStore, opMStore8, opSStore, opTStore, opSwapN, opReturnCode, opReturn, opRevert:
		words++
		fallthrough
	case opIsZero, opNot, opClz, opBalance, opCallDataLoad, opBlockHash, opBlobHash, opPop, opMLoad, opSLoad, opTLoad,
		opDataLoad, opRJumpI, opRJumpV, opDupN, opReturnDataLoad:
		words++
	}
	if opDup1 <= code && code <= opDup16 {
		return code - opDup1 + 1
	}
	if opSwap1 <= code && code <= opSwap16 {
		return code - opSwap1 + 2
	}
	return words
}

// outOf: how many words are left in their place; most leave one.
func outOf(code int) int {
	switch {
	case opDup1 <= code && code <= opDup16, code == opDupN:
		return inOf(code) + 1
	case opSwap1 <= code && code <= opSwap16, code == opSwapN, code == opExchange:
		return inOf(code)
	case leavesNone(code):
		return 0
	}
	return 1
}

func leavesNone(code int) bool {
	switch code {
	case opStop, opCallDataCopy, opReturnDataCopy, opPop, opMStore, opMStore8, opSStore, opNop, opTStore, opMCopy,
		opLog0, opLog1, opLog2, opLog3, opLog4, opDataCopy,
		opRJump, opRJumpI, opRJumpV, opCallF, opRetF, opJumpF, opReturnCode, opReturn, opRevert, opInvalid:
		return true
	}
	return false
}

// gasOf: what it costs ahead of all else; most cost 3.
func gasOf(code int) int {
	switch code {
	case opStop, opReturnCode, opReturn, opRevert, opInvalid:
		return 0
	case opNop:
		return 1
	case opAddress, opOrigin, opCaller, opCallValue, opCallDataSize, opGasPrice, opReturnDataSize,
		opCoinbase, opTimestamp, opNumber, opPrevRandao, opGasLimit, opChainID, opBaseFee, opBlobBaseFee,
		opPop, opMSize, opPush0, opDataSize, opRJump:
		return 2
	case opDataLoad, opRJumpI, opRJumpV:
		return 4
	case opMul, opDiv, opSDiv, opMod, opSMod, opSignExtend, opClz, opSelfBalance, opCallF, opJumpF:
		return 5
	case opAddMod, opMulMod:
		return 8
	case opExp:
		return 10
	case opBlockHash:
		return 20
	case opKeccak256:
		return 30
	case opBalance, opSLoad, opSStore, opTLoad, opTStore, opExtCall, opExtDelegateCall, opExtStaticCall:
		return 100
	case opLog0, opLog1, opLog2, opLog3, opLog4:
		return 375 + 375*(code-opLog0)
	case opEOFCreate:
		return 32000
	}
	return 3
}

// endsOf: is nothing behind it reached from it?
func endsOf(code int) bool {
	switch code {
	case opStop, opRJump, opRetF, opJumpF, opReturnCode, opReturn, opRevert, opInvalid:
		return true
	}
	return false
}
