package op

// The codes, a group for each row of sixteen bytes in which there are some; _ is a byte that is no instruction.

const (
	opStop = iota + 0x00
	opAdd
	opMul
	opSub
	opDiv
	opSDiv
	opMod
	opSMod
	opAddMod
	opMulMod
	opExp
	opSignExtend
)

const (
	opLt = iota + 0x10
	opGt
	opSLt
	opSGt
	opEq
	opIsZero
	opAnd
	opOr
	opXor
	opNot
	opByte
	opShl
	opShr
	opSar
	opClz
)

const opKeccak256 = 0x20

const (
	opAddress = iota + 0x30
	opBalance
	opOrigin
	opCaller
	opCallValue
	opCallDataLoad
	opCallDataSize
	opCallDataCopy
	_
	_
	opGasPrice
	_
	_
	opReturnDataSize
	opReturnDataCopy
)

const (
	opBlockHash = iota + 0x40
	opCoinbase
	opTimestamp
	opNumber
	opPrevRandao
	opGasLimit
	opChainID
	opSelfBalance
	opBaseFee
	opBlobHash
	opBlobBaseFee
)

const (
	opPop = iota + 0x50
	opMLoad
	opMStore
	opMStore8
	opSLoad
	opSStore
	_
	_
	_
	opMSize
	_
	opNop
	opTLoad
	opTStore
	opMCopy
	opPush0
)

// Of the instructions that differ by a number alone the first and the last have a name.
const (
	opPush1  = 0x60
	opPush32 = opPush1 + 31
	opDup1   = 0x80
	opDup16  = opDup1 + 15
	opSwap1  = 0x90
	opSwap16 = opSwap1 + 15
)

const (
	opLog0 = iota + 0xa0
	opLog1
	opLog2
	opLog3
	opLog4
)

const (
	opDataLoad = iota + 0xd0
	opDataLoadN
	opDataSize
	opDataCopy
)

const (
	opRJump = iota + 0xe0
	opRJumpI
	opRJumpV
	opCallF
	opRetF
	opJumpF
	opDupN
	opSwapN
	opExchange
	_
	_
	_
	opEOFCreate
	_
	opReturnCode
)

const (
	opReturn = iota + 0xf3
	_
	_
	_
	opReturnDataLoad
	opExtCall
	opExtDelegateCall
	_
	opExtStaticCall
	_
	opRevert
	opInvalid
)
