package op_test

import (
	"strconv"
	"strings"
	"testing"

	"vouch/api"
	"vouch/op"
)

// DOC.md's table 'The instructions', letter by letter.
const document = `
| 00 | STOP | | 0, 0 | 0 | ends |
| 01, 03 | ADD, SUB | | 2, 1 | 3 | |
| 02, 04 to 07 | MUL, DIV, SDIV, MOD, SMOD | | 2, 1 | 5 | |
| 08, 09 | ADDMOD, MULMOD | | 3, 1 | 8 | |
| 0a | EXP | | 2, 1 | 10 | |
| 0b | SIGNEXTEND | | 2, 1 | 5 | |
| 10 to 14 | LT, GT, SLT, SGT, EQ | | 2, 1 | 3 | |
| 15, 19 | ISZERO, NOT | | 1, 1 | 3 | |
| 16 to 18 | AND, OR, XOR | | 2, 1 | 3 | |
| 1a to 1d | BYTE, SHL, SHR, SAR | | 2, 1 | 3 | |
| 1e | CLZ | | 1, 1 | 5 | |
| 20 | KECCAK256 | | 2, 1 | 30 | |
| 30, 32 to 34 | ADDRESS, ORIGIN, CALLER, CALLVALUE | | 0, 1 | 2 | |
| 31 | BALANCE | | 1, 1 | 100 | |
| 35 | CALLDATALOAD | | 1, 1 | 3 | |
| 36, 3a, 3d | CALLDATASIZE, GASPRICE, RETURNDATASIZE | | 0, 1 | 2 | |
| 37, 3e | CALLDATACOPY, RETURNDATACOPY | | 3, 0 | 3 | |
| 40 | BLOCKHASH | | 1, 1 | 20 | |
| 41 to 46, 48, 4a | COINBASE, TIMESTAMP, NUMBER, PREVRANDAO, GASLIMIT, CHAINID, BASEFEE, BLOBBASEFEE | | 0, 1 | 2 | |
| 47 | SELFBALANCE | | 0, 1 | 5 | |
| 49 | BLOBHASH | | 1, 1 | 3 | |
| 50 | POP | | 1, 0 | 2 | |
| 51 | MLOAD | | 1, 1 | 3 | |
| 52, 53 | MSTORE, MSTORE8 | | 2, 0 | 3 | |
| 54 | SLOAD | | 1, 1 | 100 | |
| 55 | SSTORE | | 2, 0 | 100 | |
| 59 | MSIZE | | 0, 1 | 2 | |
| 5b | NOP | | 0, 0 | 1 | |
| 5c | TLOAD | | 1, 1 | 100 | |
| 5d | TSTORE | | 2, 0 | 100 | |
| 5e | MCOPY | | 3, 0 | 3 | |
| 5f | PUSH0 | | 0, 1 | 2 | |
| 60 to 7f | PUSH1 to PUSH32 | 1 to 32 | 0, 1 | 3 | |
| 80 to 8f | DUP1 to DUP16 | | n, n + 1 | 3 | n is 1 to 16 |
| 90 to 9f | SWAP1 to SWAP16 | | n + 1, n + 1 | 3 | n is 1 to 16 |
| a0 to a4 | LOG0 to LOG4 | | 2 + n, 0 | 375 + 375 n | n is 0 to 4 |
| d0 | DATALOAD | | 1, 1 | 4 | |
| d1 | DATALOADN | 2 | 0, 1 | 3 | |
| d2 | DATASIZE | | 0, 1 | 2 | |
| d3 | DATACOPY | | 3, 0 | 3 | |
| e0 | RJUMP | 2 | 0, 0 | 2 | ends |
| e1 | RJUMPI | 2 | 1, 0 | 4 | |
| e2 | RJUMPV | a table | 1, 0 | 4 | |
| e3 | CALLF | 2 | 0, 0 | 5 | |
| e4 | RETF | | 0, 0 | 3 | ends |
| e5 | JUMPF | 2 | 0, 0 | 5 | ends |
| e6 | DUPN | 1 | n, n + 1 | 3 | n is its byte and 1 |
| e7 | SWAPN | 1 | n + 1, n + 1 | 3 | n is its byte and 1 |
| e8 | EXCHANGE | 1 | n + m + 1, the same | 3 | n is its byte's upper half and 1, m its lower half and 1 |
| ec | EOFCREATE | 1 | 4, 1 | 32000 | |
| ee | RETURNCODE | 1 | 2, 0 | 0 | ends |
| f3 | RETURN | | 2, 0 | 0 | ends |
| f7 | RETURNDATALOAD | | 1, 1 | 3 | |
| f8 | EXTCALL | | 4, 1 | 100 | |
| f9, fb | EXTDELEGATECALL, EXTSTATICCALL | | 3, 1 | 100 | |
| fd | REVERT | | 2, 0 | 0 | ends |
| fe | INVALID | | 0, 0 | 0 | ends |
`

// rows are the document's rows, by their codes: each line of it spread over its codes.
func rows(t *testing.T) map[int]api.Op {
	t.Helper()
	all := map[int]api.Op{}
	for line := range strings.Lines(strings.TrimSpace(document)) {
		cells := strings.Split(strings.Trim(strings.TrimSpace(line), "|"), "|")
		for i := range cells {
			cells[i] = strings.TrimSpace(cells[i])
		}
		codes := spread(cells[0], 16)
		names := namesOf(cells[1])
		if len(codes) != len(names) {
			t.Fatalf("%d codes and %d names: %s", len(codes), len(names), line)
		}
		first := 1 // n of the line's first code, and of an immediate byte 0
		if names[0] == "LOG0" {
			first = 0
		}
		words := strings.Split(cells[3], ", ")
		if words[1] == "the same" {
			words[1] = words[0]
		}
		for i, code := range codes {
			if _, twice := all[code]; twice {
				t.Fatalf("code %#x twice", code)
			}
			n := first + i
			all[code] = api.Op{
				Code: code,
				Name: names[i],
				Imm:  immediate(cells[2], i),
				In:   reckon(t, words[0], n),
				Out:  reckon(t, words[1], n),
				Gas:  reckon(t, strings.ReplaceAll(cells[4], "375 n", strings.Repeat("n + ", 374)+"n"), n),
				Ends: cells[5] == "ends",
			}
		}
	}
	return all
}

// spread are the numbers of a cell such as "02, 04 to 07".
func spread(cell string, base int) []int {
	var out []int
	for _, part := range strings.Split(cell, ", ") {
		from, to, many := strings.Cut(part, " to ")
		if !many {
			to = from
		}
		a, _ := strconv.ParseInt(from, base, 64)
		b, _ := strconv.ParseInt(to, base, 64)
		for n := a; n <= b; n++ {
			out = append(out, int(n))
		}
	}
	return out
}

// namesOf are the names of a cell such as "ADD, SUB" or "LOG0 to LOG4".
func namesOf(cell string) []string {
	from, to, many := strings.Cut(cell, " to ")
	if !many {
		return strings.Split(cell, ", ")
	}
	stem := strings.TrimRight(from, "0123456789")
	var out []string
	for _, n := range spread(from[len(stem):]+" to "+to[len(stem):], 10) {
		out = append(out, stem+strconv.Itoa(n))
	}
	return out
}

func immediate(cell string, i int) int {
	switch cell {
	case "":
		return 0
	case "a table":
		return api.Table
	}
	n := spread(cell, 10)
	return n[i]
}

// reckon is a sum of numbers, n and m, where m is 1.
func reckon(t *testing.T, sum string, n int) int {
	t.Helper()
	total := 0
	for _, part := range strings.Split(sum, " + ") {
		switch part {
		case "n":
			total += n
		case "m":
			total++
		default:
			x, err := strconv.Atoi(part)
			if err != nil {
				t.Fatalf("%q: %v", sum, err)
			}
			total += x
		}
	}
	return total
}

// 4.1, 'The rows': every row of the document, cell by cell, and no other; beyond a byte there is none.
func TestOf(t *testing.T) {
	want := rows(t)
	if len(want) != 153 {
		t.Fatalf("the document has %d rows", len(want))
	}
	for code := -70000; code < 70000; code++ {
		row, ok := op.Of(code)
		x, there := want[code]
		if ok != there || row != x {
			t.Errorf("Of(%#x): %+v, %v; want %+v, %v", code, row, ok, x, there)
		}
	}
}

// 4.1, R5: numbers whose lowest byte is a code are none for that.
func TestOfFarNumbers(t *testing.T) {
	for _, code := range far() {
		if row, ok := op.Of(code); ok || row != (api.Op{}) {
			t.Errorf("Of(%#x): %+v, %v", code, row, ok)
		}
	}
}

// 4.2: every name of the document, and no other: not in small letters, not a part, nor with a sign more.
func TestByName(t *testing.T) {
	want := map[string]api.Op{}
	for _, row := range rows(t) {
		want[row.Name] = row
	}
	ask := func(name string) {
		row, ok := op.ByName(name)
		x, there := want[name]
		if ok != there || row != x {
			t.Errorf("ByName(%q): %+v, %v; want %+v, %v", name, row, ok, x, there)
		}
	}
	for name := range want {
		ask(name)
		ask(strings.ToLower(name))
		ask(name[:1] + strings.ToLower(name[1:]))
		ask(strings.ToLower(name[:1]) + name[1:])
		for i := range name {
			ask(name[:i])
			ask(name[i:])
			ask(name[:i] + name[i+1:])
			ask(name[:i] + " " + name[i:])
			ask(name[:i] + strings.ToLower(name[i:i+1]) + name[i+1:])
		}
		for b := range 256 {
			ask(name + string([]byte{byte(b)}))
			ask(string([]byte{byte(b)}) + name)
		}
	}
	for _, name := range []string{"", " ", "\x00", "0", "PUSH", "PUSH00", "PUSH01", "PUSH33", "PUSH-1", "DUP", "DUP0", "DUP17", "SWAP0", "SWAP17", "LOG", "LOG5", "JUMP", "JUMPI", "JUMPDEST", "PC", "GAS", "CALL", "CREATE", "SELFDESTRUCT", "EXTCODESIZE", "ＡＤＤ", strings.Repeat("ADD", 1000)} {
		if row, ok := op.ByName(name); ok || row != (api.Op{}) {
			t.Errorf("ByName(%.40q): %+v, %v", name, row, ok)
		}
	}
}

// 4.6: no two rows have one code or one name; what does not end costs at least 1.
func TestRowsTogether(t *testing.T) {
	codes, names := map[int]string{}, map[string]int{}
	for row := range op.All() {
		if name, twice := codes[row.Code]; twice {
			t.Errorf("code %#x: %s and %s", row.Code, name, row.Name)
		}
		if code, twice := names[row.Name]; twice {
			t.Errorf("name %s: %#x and %#x", row.Name, code, row.Code)
		}
		codes[row.Code], names[row.Name] = row.Name, row.Code
		if !row.Ends && row.Gas < 1 {
			t.Errorf("%s does not end, and costs %d", row.Name, row.Gas)
		}
		if row.Name == "" {
			t.Errorf("code %#x has no name", row.Code)
		}
	}
	if len(codes) != 153 || len(names) != 153 {
		t.Errorf("%d codes, %d names", len(codes), len(names))
	}
}
