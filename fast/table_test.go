package fast_test

import (
	"fmt"
	"strconv"
	"strings"
	"testing"
)

// DOC.md's table 'The instructions', a line an instruction: code, name, immediate bytes (t: a table), words taken, left, gas. Those that differ by a number alone are counted up below.
const document = `
00 STOP 0 0 0 0
01 ADD 0 2 1 3
02 MUL 0 2 1 5
03 SUB 0 2 1 3
04 DIV 0 2 1 5
05 SDIV 0 2 1 5
06 MOD 0 2 1 5
07 SMOD 0 2 1 5
08 ADDMOD 0 3 1 8
09 MULMOD 0 3 1 8
0a EXP 0 2 1 10
0b SIGNEXTEND 0 2 1 5
10 LT 0 2 1 3
11 GT 0 2 1 3
12 SLT 0 2 1 3
13 SGT 0 2 1 3
14 EQ 0 2 1 3
15 ISZERO 0 1 1 3
16 AND 0 2 1 3
17 OR 0 2 1 3
18 XOR 0 2 1 3
19 NOT 0 1 1 3
1a BYTE 0 2 1 3
1b SHL 0 2 1 3
1c SHR 0 2 1 3
1d SAR 0 2 1 3
1e CLZ 0 1 1 5
20 KECCAK256 0 2 1 30
30 ADDRESS 0 0 1 2
31 BALANCE 0 1 1 100
32 ORIGIN 0 0 1 2
33 CALLER 0 0 1 2
34 CALLVALUE 0 0 1 2
35 CALLDATALOAD 0 1 1 3
36 CALLDATASIZE 0 0 1 2
37 CALLDATACOPY 0 3 0 3
3a GASPRICE 0 0 1 2
3d RETURNDATASIZE 0 0 1 2
3e RETURNDATACOPY 0 3 0 3
40 BLOCKHASH 0 1 1 20
41 COINBASE 0 0 1 2
42 TIMESTAMP 0 0 1 2
43 NUMBER 0 0 1 2
44 PREVRANDAO 0 0 1 2
45 GASLIMIT 0 0 1 2
46 CHAINID 0 0 1 2
47 SELFBALANCE 0 0 1 5
48 BASEFEE 0 0 1 2
49 BLOBHASH 0 1 1 3
4a BLOBBASEFEE 0 0 1 2
50 POP 0 1 0 2
51 MLOAD 0 1 1 3
52 MSTORE 0 2 0 3
53 MSTORE8 0 2 0 3
54 SLOAD 0 1 1 100
55 SSTORE 0 2 0 100
59 MSIZE 0 0 1 2
5b NOP 0 0 0 1
5c TLOAD 0 1 1 100
5d TSTORE 0 2 0 100
5e MCOPY 0 3 0 3
5f PUSH0 0 0 1 2
d0 DATALOAD 0 1 1 4
d1 DATALOADN 2 0 1 3
d2 DATASIZE 0 0 1 2
d3 DATACOPY 0 3 0 3
e0 RJUMP 2 0 0 2
e1 RJUMPI 2 1 0 4
e2 RJUMPV t 1 0 4
e3 CALLF 2 0 0 5
e4 RETF 0 0 0 3
e5 JUMPF 2 0 0 5
e6 DUPN 1 1 2 3
e7 SWAPN 1 2 2 3
e8 EXCHANGE 1 3 3 3
ec EOFCREATE 1 4 1 32000
ee RETURNCODE 1 2 0 0
f3 RETURN 0 2 0 0
f7 RETURNDATALOAD 0 1 1 3
f8 EXTCALL 0 4 1 100
f9 EXTDELEGATECALL 0 3 1 100
fb EXTSTATICCALL 0 3 1 100
fd REVERT 0 2 0 0
fe INVALID 0 0 0 0
`

// kind is a row of the table.
type kind struct {
	code                     int
	name                     string
	imm, takes, leaves, cost int
}

// table is all rows by their codes.
var table = func() map[int]kind {
	all := map[int]kind{}
	for _, line := range strings.Split(strings.TrimSpace(document), "\n") {
		cells := strings.Fields(line)
		code, wrong := strconv.ParseInt(cells[0], 16, 0)
		if wrong != nil {
			panic(wrong)
		}
		number := func(cell string) int {
			if cell == "t" {
				return -1
			}
			x, wrong := strconv.Atoi(cell)
			if wrong != nil {
				panic(wrong)
			}
			return x
		}
		all[int(code)] = kind{int(code), cells[1], number(cells[2]), number(cells[3]), number(cells[4]), number(cells[5])}
	}
	for i := 1; i <= 32; i++ {
		all[0x5f+i] = kind{0x5f + i, fmt.Sprint("PUSH", i), i, 0, 1, 3}
	}
	for i := 1; i <= 16; i++ {
		all[0x7f+i] = kind{0x7f + i, fmt.Sprint("DUP", i), 0, i, i + 1, 3}
		all[0x8f+i] = kind{0x8f + i, fmt.Sprint("SWAP", i), 0, i + 1, i + 1, 3}
	}
	for i := range 5 {
		all[0xa0+i] = kind{0xa0 + i, fmt.Sprint("LOG", i), 0, 2 + i, 0, 375 + 375*i}
	}
	return all
}()

// needs is what an instruction with these immediate bytes takes and leaves.
func (k kind) needs(imm []byte) (takes, leaves int) {
	more := 0
	switch k.name {
	case "DUPN", "SWAPN":
		more = int(imm[0])
	case "EXCHANGE":
		more = int(imm[0]/16) + int(imm[0]%16)
	}
	return k.takes + more, k.leaves + more
}

func TestTheTableIsWhole(t *testing.T) {
	if len(table) != 153 {
		t.Errorf("%d rows", len(table))
	}
}
