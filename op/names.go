package op

import "strconv"

// The names that have no number, each table from the first code of its row of sixteen on; an empty one is that of a byte that is no instruction.
var (
	names0 = [16]string{"STOP", "ADD", "MUL", "SUB", "DIV", "SDIV", "MOD", "SMOD", "ADDMOD", "MULMOD", "EXP", "SIGNEXTEND"}
	names1 = [16]string{"LT", "GT", "SLT", "SGT", "EQ", "ISZERO", "AND", "OR", "XOR", "NOT", "BYTE", "SHL", "SHR", "SAR", "CLZ"}
	names3 = [16]string{"ADDRESS", "BALANCE", "ORIGIN", "CALLER", "CALLVALUE", "CALLDATALOAD", "CALLDATASIZE", "CALLDATACOPY", 0xa: "GASPRICE", 0xd: "RETURNDATASIZE", "RETURNDATACOPY"}
	names4 = [16]string{"BLOCKHASH", "COINBASE", "TIMESTAMP", "NUMBER", "PREVRANDAO", "GASLIMIT", "CHAINID", "SELFBALANCE", "BASEFEE", "BLOBHASH", "BLOBBASEFEE"}
	names5 = [16]string{"POP", "MLOAD", "MSTORE", "MSTORE8", "SLOAD", "SSTORE", 0x9: "MSIZE", 0xb: "NOP", "TLOAD", "TSTORE", "MCOPY", "PUSH0"}
	namesD = [16]string{"DATALOAD", "DATALOADN", "DATASIZE", "DATACOPY"}
	namesE = [16]string{"RJUMP", "RJUMPI", "RJUMPV", "CALLF", "RETF", "JUMPF", "DUPN", "SWAPN", "EXCHANGE", 0xc: "EOFCREATE", 0xe: "RETURNCODE"}
	namesF = [16]string{0x3: "RETURN", 0x7: "RETURNDATALOAD", "EXTCALL", "EXTDELEGATECALL", 0xb: "EXTSTATICCALL", 0xd: "REVERT", "INVALID"}
)

// nameOf is the name of a code; the empty text: the code is none of the table's.
func nameOf(code int) string {
	switch {
	case opPush1 <= code && code <= opPush32:
		return "PUSH" + strconv.Itoa(code-opPush1+1)
	case opDup1 <= code && code <= opDup16:
		return "DUP" + strconv.Itoa(code-opDup1+1)
	case opSwap1 <= code && code <= opSwap16:
		return "SWAP" + strconv.Itoa(code-opSwap1+1)
	case opLog0 <= code && code <= opLog4:
		return "LOG" + strconv.Itoa(code-opLog0)
	case code == opKeccak256:
		return "KECCAK256"
	}
	return plainName(code)
}

// plainName is the name of a code out of the tables; the empty text: it stands in none.
func plainName(code int) string {
	low := code & 0xf
	switch code >> 4 {
	case 0x0:
		return names0[low]
	case 0x1:
		return names1[low]
	case 0x3:
		return names3[low]
	case 0x4:
		return names4[low]
	case 0x5:
		return names5[low]
	case 0xd:
		return namesD[low]
	case 0xe:
		return namesE[low]
	case 0xf:
		return namesF[low]
	}
	return ""
}
