package op_test

import (
	"slices"
	"testing"

	"vouch/api"
	"vouch/op"
)

func wantNeeds(t *testing.T, code int, imm []byte, in, out int, ok bool) {
	t.Helper()
	if a, b, c := op.Needs(code, imm); a != in || b != out || c != ok {
		t.Errorf("Needs(%#x, %v): %d, %d, %v; want %d, %d, %v", code, imm, a, b, c, in, out, ok)
	}
}

// 4.4: every code of the table that has no table of jumps, with each number of immediate bytes up to a few too many: by the table with as many as Imm, else none.
func TestNeedsByTheTable(t *testing.T) {
	for code, row := range rows(t) {
		if row.Imm == api.Table {
			continue
		}
		for many := range 40 {
			imm := make([]byte, many, many+3)
			if many == row.Imm {
				wantNeeds(t, code, imm, row.In, row.Out, true)
				continue
			}
			wantNeeds(t, code, imm, 0, 0, false)
		}
		if row.Imm == 0 {
			wantNeeds(t, code, nil, row.In, row.Out, true)
		} else {
			wantNeeds(t, code, nil, 0, 0, false)
		}
		wantNeeds(t, code, make([]byte, 65536), 0, 0, false)
	}
}

// 4.4: what the immediate bytes are changes nothing, but of DUPN, SWAPN, EXCHANGE.
func TestNeedsWhateverTheBytes(t *testing.T) {
	for code, row := range rows(t) {
		if row.Imm <= 0 || row.Name == "DUPN" || row.Name == "SWAPN" || row.Name == "EXCHANGE" {
			continue
		}
		for b := range 256 {
			wantNeeds(t, code, slices.Repeat([]byte{byte(b)}, row.Imm), row.In, row.Out, true)
		}
	}
}

// 4.4: DUPN, SWAPN, EXCHANGE with every immediate byte.
func TestNeedsOfTheByte(t *testing.T) {
	for b := range 256 {
		imm := []byte{byte(b)}
		n := b + 1
		wantNeeds(t, 0xe6, imm, n, n+1, true)
		wantNeeds(t, 0xe7, imm, n+1, n+1, true)
		n, m := b/16+1, b%16+1
		wantNeeds(t, 0xe8, imm, n+m+1, n+m+1, true)
		for code := 0xe6; code <= 0xe8; code++ {
			wantNeeds(t, code, nil, 0, 0, false)
			wantNeeds(t, code, []byte{byte(b), 0}, 0, 0, false)
		}
	}
}

// 4.4: RJUMPV with each k: just 1 + 2 (k + 1) bytes are its own, whatever the distances are.
func TestNeedsOfATable(t *testing.T) {
	wantNeeds(t, 0xe2, nil, 0, 0, false)
	wantNeeds(t, 0xe2, []byte{}, 0, 0, false)
	for k := range 256 {
		whole := 1 + 2*(k+1)
		for many := 1; many <= whole+4; many++ {
			imm := slices.Repeat([]byte{byte(many)}, many)
			imm[0] = byte(k)
			if many == whole {
				wantNeeds(t, 0xe2, imm, 1, 0, true)
			} else {
				wantNeeds(t, 0xe2, imm, 0, 0, false)
			}
		}
	}
}

// 4.4: numbers that are no codes, with any immediate bytes.
func TestNeedsOfNoCode(t *testing.T) {
	table := rows(t)
	none := far()
	for code := -300; code < 600; code++ {
		if _, there := table[code]; !there {
			none = append(none, code)
		}
	}
	for _, code := range none {
		for _, imm := range [][]byte{nil, {}, {0}, {1}, {0, 0}, {0, 0, 0}, {1, 0, 0, 0, 0}, make([]byte, 32)} {
			wantNeeds(t, code, imm, 0, 0, false)
		}
	}
}
