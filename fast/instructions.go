package fast

// The first of those that differ by a number alone.
const (
	push0 = 0x5f
	dup1  = 0x80
	swap1 = 0x90
	log0  = 0xa0
)

// instructions are what each byte does. They are made by a function, and each frame keeps its own: so they are no package variable, and are not made anew at each step.
func instructions() [256]func(*frame) {
	all := [256]func(*frame){
		0x00: (*frame).stop, 0x01: (*frame).add, 0x02: (*frame).mul, 0x03: (*frame).sub,
		0x04: (*frame).div, 0x05: (*frame).sDiv, 0x06: (*frame).mod, 0x07: (*frame).sMod,
		0x08: (*frame).addMod, 0x09: (*frame).mulMod, 0x0a: (*frame).exp, 0x0b: (*frame).signExtend,
		0x10: (*frame).lt, 0x11: (*frame).gt, 0x12: (*frame).sLt, 0x13: (*frame).sGt, 0x14: (*frame).eq, 0x15: (*frame).isZero,
		0x16: (*frame).and, 0x17: (*frame).or, 0x18: (*frame).xor, 0x19: (*frame).not,
		0x1a: (*frame).byteOf, 0x1b: (*frame).shl, 0x1c: (*frame).shr, 0x1d: (*frame).sar, 0x1e: (*frame).clz,
		0x20: (*frame).keccak256,
		0x30: (*frame).self, 0x31: (*frame).balance, 0x32: (*frame).origin, 0x33: (*frame).caller, 0x34: (*frame).callValue,
		0x35: (*frame).callDataLoad, 0x36: (*frame).callDataSize, 0x37: (*frame).callDataCopy, 0x3a: (*frame).gasPrice,
		0x3d: (*frame).returnDataSize, 0x3e: (*frame).returnDataCopy,
		0x40: (*frame).blockHash, 0x41: (*frame).coinbase, 0x42: (*frame).timestamp, 0x43: (*frame).number,
		0x44: (*frame).prevRandao, 0x45: (*frame).gasLimit, 0x46: (*frame).chainID, 0x47: (*frame).selfBalance,
		0x48: (*frame).baseFee, 0x49: (*frame).blobHash, 0x4a: (*frame).blobBaseFee,
		0x50: (*frame).pop, 0x51: (*frame).mLoad, 0x52: (*frame).mStore, 0x53: (*frame).mStore8,
		0x54: (*frame).sLoad, 0x55: (*frame).sStore, 0x59: (*frame).mSize, 0x5b: (*frame).nop,
		0x5c: (*frame).tLoad, 0x5d: (*frame).tStore, 0x5e: (*frame).mCopy,
		0xd0: (*frame).dataLoad, 0xd1: (*frame).dataLoadN, 0xd2: (*frame).dataSize, 0xd3: (*frame).dataCopy,
		0xe0: (*frame).rJump, 0xe1: (*frame).rJumpI, 0xe2: (*frame).rJumpV,
		0xe3: (*frame).callF, 0xe4: (*frame).retF, 0xe5: (*frame).jumpF,
		0xe6: (*frame).dupN, 0xe7: (*frame).swapN, 0xe8: (*frame).exchange,
		0xec: (*frame).eofCreate, 0xee: (*frame).returnCode, 0xf3: (*frame).giveBack, 0xf7: (*frame).returnDataLoad,
		0xf8: (*frame).extCall, 0xf9: (*frame).extDelegateCall, 0xfb: (*frame).extStaticCall, 0xfd: (*frame).revert,
	}
	same(all[push0:push0+33], (*frame).push)
	same(all[dup1:dup1+16], (*frame).dup)
	same(all[swap1:swap1+16], (*frame).swap)
	same(all[log0:log0+5], (*frame).log)
	for code, does := range all {
		if does == nil { // INVALID, and what is no instruction
			all[code] = (*frame).invalid
		}
	}
	return all
}

// same lets all of them do one thing.
func same(part []func(*frame), does func(*frame)) {
	for i := range part {
		part[i] = does
	}
}
