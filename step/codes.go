package step

// The codes of the instructions; what reckons with words alone needs no name here (chapter 1 knows it), and of those that differ by a number alone the first and the last have one.

const (
	opStop      = 0x00
	opExp       = 0x0a
	opKeccak256 = 0x20
)

const (
	opAddress = iota + 0x30
	opBalance
	opOrigin
	opCaller
	opCallValue
	opCallDataLoad
	opCallDataSize
	opCallDataCopy
	_
	_
	opGasPrice
	_
	_
	opReturnDataSize
	opReturnDataCopy
)

const (
	opBlockHash = iota + 0x40
	opCoinbase
	opTimestamp
	opNumber
	opPrevRandao
	opGasLimit
	opChainID
	opSelfBalance
	opBaseFee
	opBlobHash
	opBlobBaseFee
)

const (
	opPop = iota + 0x50
	opMLoad
	opMStore
	opMStore8
	opSLoad
	opSStore
	_
	_
	_
	opMSize
	_
	opNop
	opTLoad
	opTStore
	opMCopy
	opPush0
)

const (
	opPush32 = 0x7f
	opDup1   = 0x80
	opDup16  = 0x8f
	opSwap1  = 0x90
	opSwap16 = 0x9f
	opLog0   = 0xa0
	opLog4   = 0xa4
)

const (
	opDataLoad = iota + 0xd0
	opDataLoadN
	opDataSize
	opDataCopy
)

const (
	opRJump = iota + 0xe0
	opRJumpI
	opRJumpV
	opCallF
	opRetF
	opJumpF
	opDupN
	opSwapN
	opExchange
	_
	_
	_
	opEOFCreate
	_
	opReturnCode
)

const (
	opReturn = iota + 0xf3
	_
	_
	_
	opReturnDataLoad
	opExtCall
	opExtDelegateCall
	_
	opExtStaticCall
	_
	opRevert
)
