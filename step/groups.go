package step

import "vouch/api"

// Groups of instructions: those of one group go alike.
const (
	reckoning = iota
	raising
	hashing
	ofFrame
	ofBlock
	balances
	loads
	dataWords
	copying
	moving
	blockHashes
	blobHashes
	pops
	memoryLoads
	memoryStores
	byteStores
	slotLoads
	slotStores
	transientLoads
	transientStores
	nops
	pushes
	dups
	swaps
	exchanges
	logs
	jumps
	maybeJumps
	tableJumps
	sectionCalls
	sectionReturns
	sectionJumps
	creating
	deploying
	stopping
	returning
	calling
	invalid
	groups // how many they are
)

// row is how the instructions of a group go.
type row struct {
	changes bool // a still frame halts at it
	do      func(r *Run, i api.Instr)
}

// rows are made by a function, and each run keeps its own: so they are no package variable, and are not made anew at each step.
func rows() [groups]row {
	return [groups]row{
		reckoning:       {do: (*Run).reckon},
		raising:         {do: (*Run).raise},
		hashing:         {do: (*Run).hash},
		ofFrame:         {do: (*Run).tellOfFrame},
		ofBlock:         {do: (*Run).tellOfBlock},
		balances:        {do: (*Run).balance},
		loads:           {do: (*Run).load},
		dataWords:       {do: (*Run).dataWord},
		copying:         {do: (*Run).copyIn},
		moving:          {do: (*Run).move},
		blockHashes:     {do: (*Run).blockHash},
		blobHashes:      {do: (*Run).blobHash},
		pops:            {do: (*Run).pop},
		memoryLoads:     {do: (*Run).memoryLoad},
		memoryStores:    {do: (*Run).memoryStore},
		byteStores:      {do: (*Run).byteStore},
		slotLoads:       {do: (*Run).slotLoad},
		slotStores:      {do: (*Run).slotStore, changes: true},
		transientLoads:  {do: (*Run).transientLoad},
		transientStores: {do: (*Run).transientStore, changes: true},
		nops:            {do: (*Run).nothing},
		pushes:          {do: (*Run).push},
		dups:            {do: (*Run).dup},
		swaps:           {do: (*Run).swap},
		exchanges:       {do: (*Run).exchange},
		logs:            {do: (*Run).log, changes: true},
		jumps:           {do: (*Run).jump},
		maybeJumps:      {do: (*Run).maybeJump},
		tableJumps:      {do: (*Run).tableJump},
		sectionCalls:    {do: (*Run).sectionCall},
		sectionReturns:  {do: (*Run).sectionReturn},
		sectionJumps:    {do: (*Run).sectionJump},
		creating:        {do: (*Run).create, changes: true},
		deploying:       {do: (*Run).deploy},
		stopping:        {do: (*Run).stop},
		returning:       {do: (*Run).giveBack},
		calling:         {do: (*Run).call},
		invalid:         {do: (*Run).giveUp},
	}
}

// groupOf is the group of an instruction.
func groupOf(code int) int {
	if code <= opPush0 {
		return lowGroup(code)
	}
	return highGroup(code)
}

// lowGroup is that of an instruction up to PUSH0.
func lowGroup(code int) int {
	switch code {
	case opStop:
		return stopping
	case opExp:
		return raising
	case opKeccak256:
		return hashing
	case opAddress, opOrigin, opCaller, opCallValue, opCallDataSize, opGasPrice, opReturnDataSize, opSelfBalance, opMSize:
		return ofFrame
	case opCoinbase, opTimestamp, opNumber, opPrevRandao, opGasLimit, opChainID, opBaseFee, opBlobBaseFee:
		return ofBlock
	case opBalance:
		return balances
	case opCallDataLoad:
		return loads
	case opCallDataCopy, opReturnDataCopy:
		return copying
	case opMCopy:
		return moving
	case opBlockHash:
		return blockHashes
	case opBlobHash:
		return blobHashes
	case opPop:
		return pops
	case opMLoad:
		return memoryLoads
	case opMStore:
		return memoryStores
	case opMStore8:
		return byteStores
	case opSLoad:
		return slotLoads
	case opSStore:
		return slotStores
	case opTLoad:
		return transientLoads
	case opTStore:
		return transientStores
	case opNop:
		return nops
	case opPush0:
		return pushes
	}
	return reckoning
}

// highGroup is that of an instruction behind PUSH0.
func highGroup(code int) int {
	switch {
	case code <= opPush32:
		return pushes
	case code <= opDup16, code == opDupN:
		return dups
	case code <= opSwap16, code == opSwapN:
		return swaps
	case code <= opLog4:
		return logs
	}
	switch code {
	case opDataLoad, opReturnDataLoad:
		return loads
	case opDataLoadN:
		return dataWords
	case opDataSize:
		return ofFrame
	case opDataCopy:
		return copying
	case opRJump:
		return jumps
	case opRJumpI:
		return maybeJumps
	case opRJumpV:
		return tableJumps
	case opCallF:
		return sectionCalls
	case opRetF:
		return sectionReturns
	case opJumpF:
		return sectionJumps
	case opExchange:
		return exchanges
	case opEOFCreate:
		return creating
	case opReturnCode:
		return deploying
	case opReturn, opRevert:
		return returning
	case opExtCall, opExtDelegateCall, opExtStaticCall:
		return calling
	}
	return invalid
}
