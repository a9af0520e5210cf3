package code_test

import (
	"encoding/hex"
	"math/rand/v2"
	"slices"
	"strings"
	"testing"

	"vouch/api"
)

// chance is a source of numbers that gives the same ones in every run.
func chance(seed uint64) *rand.Rand { return rand.New(rand.NewPCG(seed, 6)) }

// raw is bytes written in hexadecimal, with spaces or without.
func raw(text string) []byte {
	b, wrong := hex.DecodeString(strings.ReplaceAll(text, " ", ""))
	if wrong != nil {
		panic(wrong)
	}
	return b
}

// spans are the bytes that are instructions, by the document's table.
var spans = [][2]int{
	{0x00, 0x0b}, {0x10, 0x1e}, {0x20, 0x20}, {0x30, 0x37}, {0x3a, 0x3a}, {0x3d, 0x3e}, {0x40, 0x4a},
	{0x50, 0x55}, {0x59, 0x59}, {0x5b, 0x9f}, {0xa0, 0xa4}, {0xd0, 0xd3}, {0xe0, 0xe8}, {0xec, 0xec},
	{0xee, 0xee}, {0xf3, 0xf3}, {0xf7, 0xf9}, {0xfb, 0xfb}, {0xfd, 0xfe},
}

// there: is the byte an instruction?
func there(code int) bool {
	return slices.ContainsFunc(spans, func(s [2]int) bool { return s[0] <= code && code <= s[1] })
}

// immediate is how many immediate bytes an instruction has, if the first of them is k.
func immediate(code int, k byte) int {
	switch {
	case 0x60 <= code && code <= 0x7f:
		return code - 0x5f
	case code == 0xe2:
		return 3 + 2*int(k)
	case slices.Contains([]int{0xd1, 0xe0, 0xe1, 0xe3, 0xe5}, code):
		return 2
	case slices.Contains([]int{0xe6, 0xe7, 0xe8, 0xec, 0xee}, code):
		return 1
	}
	return 0
}

// last: may the instruction be a section's last one?
func last(code int) bool {
	return slices.Contains([]int{0x00, 0xe0, 0xe4, 0xe5, 0xee, 0xf3, 0xfd, 0xfe}, code)
}

// instructions are all bytes that are some.
func instructions() []int {
	var all []int
	for code := range 256 {
		if there(code) {
			all = append(all, code)
		}
	}
	return all
}

// formed is the bytes of an instruction, its immediate ones drawn; a table's first byte is k.
func formed(d *rand.Rand, code int, k byte) []byte {
	b := []byte{byte(code)}
	for range immediate(code, k) {
		b = append(b, byte(d.Uint32()))
	}
	if code == 0xe2 {
		b[1] = k
	}
	return b
}

// instr is the instruction that stands in these bytes alone, at a place.
func instr(b []byte, at int) api.Instr {
	return api.Instr{At: at, Code: int(b[0]), Imm: b[1:], Next: at + len(b)}
}

func same(a, b api.Instr) bool {
	return a.At == b.At && a.Code == b.Code && a.Next == b.Next && slices.Equal(a.Imm, b.Imm)
}

// zero: is it the zero value?
func zero(i api.Instr) bool {
	return i.At == 0 && i.Code == 0 && i.Next == 0 && i.Imm == nil
}

// modelOne is 6.1 by the model's table.
func modelOne(b []byte, at int) (api.Instr, api.Errno) {
	if at < 0 || at > len(b)-1 {
		return api.Instr{}, api.ErrArg
	}
	code, rest := int(b[at]), b[at+1:]
	if !there(code) {
		return api.Instr{}, api.ErrOpcode
	}
	if code == 0xe2 && len(rest) == 0 {
		return api.Instr{}, api.ErrImm
	}
	var k byte
	if len(rest) > 0 {
		k = rest[0]
	}
	n := immediate(code, k)
	if n > len(rest) {
		return api.Instr{}, api.ErrImm
	}
	return api.Instr{At: at, Code: code, Imm: rest[:n], Next: at + 1 + n}, api.OK
}

// modelAll is the instructions from 0 on, why no more come, and where.
func modelAll(b []byte) ([]api.Instr, api.Errno, int) {
	var all []api.Instr
	at := 0
	for {
		i, wrong := modelOne(b, at)
		if wrong != api.OK {
			return all, wrong, at
		}
		all = append(all, i)
		at = i.Next
	}
}

// modelScan is 6.3.
func modelScan(b []byte) ([]api.Instr, api.Errno, int) {
	all, why, at := modelAll(b)
	switch {
	case len(b) == 0:
		return nil, api.ErrOpen, 0
	case why != api.ErrArg:
		return nil, why, at
	case !last(all[len(all)-1].Code):
		return nil, api.ErrOpen, all[len(all)-1].At
	}
	return all, api.OK, 0
}

// modelLeads is 6.6 of an instruction that stands.
func modelLeads(i api.Instr) []int {
	var row []byte
	switch i.Code {
	case 0xe0, 0xe1:
		row = i.Imm
	case 0xe2:
		row = i.Imm[1:]
	}
	var to []int
	for pair := range slices.Chunk(row, 2) {
		distance := int(pair[0])*256 + int(pair[1])
		if distance >= 1<<15 {
			distance -= 1 << 16
		}
		to = append(to, i.Next+distance)
	}
	return to
}

// modelCheck is 6.8, of a section of at most MaxText bytes.
func modelCheck(b []byte) (api.Errno, int) {
	all, wrong, at := modelScan(b)
	if wrong != api.OK {
		return wrong, at
	}
	begins := map[int]bool{}
	for _, i := range all {
		begins[i.At] = true
	}
	for _, i := range all {
		for _, to := range modelLeads(i) {
			if !begins[to] {
				return api.ErrTarget, i.At
			}
		}
	}
	return api.OK, 0
}

// words calls f with every row of so many letters.
func words(letters []byte, n int, f func(b []byte)) {
	b := make([]byte, n)
	var fill func(at int)
	fill = func(at int) {
		if at == n {
			f(b)
			return
		}
		for _, letter := range letters {
			b[at] = letter
			fill(at + 1)
		}
	}
	fill(0)
}

// drawn is a section of drawn instructions, the jumps short, that ends as it should; sometimes a byte of it is turned, or it is cut.
func drawn(d *rand.Rand) []byte {
	all := instructions()
	var b []byte
	for range d.IntN(12) {
		code := all[d.IntN(len(all))]
		if d.IntN(3) == 0 {
			code = 0xe0 + d.IntN(3)
		}
		i := formed(d, code, byte(d.IntN(4)))
		if 0xe0 <= code && code <= 0xe2 {
			shorten(d, i)
		}
		b = append(b, i...)
	}
	b = append(b, 0xfe)
	switch d.IntN(4) {
	case 0:
		b[d.IntN(len(b))] = byte(d.Uint32())
	case 1:
		b = b[:d.IntN(len(b)+1)]
	}
	return b
}

// shorten draws the distances of a jump anew, most of them short.
func shorten(d *rand.Rand, i []byte) {
	row := i[1:]
	if i[0] == 0xe2 {
		row = i[2:]
	}
	for pair := range slices.Chunk(row, 2) {
		distance := d.IntN(24) - 12
		if d.IntN(2) == 0 {
			distance = 0
		}
		pair[0], pair[1] = byte(uint16(distance)>>8), byte(distance)
	}
}

// sections calls f with sections of all kinds: all short ones, all of a few letters, drawn ones.
func sections(t *testing.T, f func(b []byte)) {
	t.Helper()
	every := make([]byte, 256)
	for i := range every {
		every[i] = byte(i)
	}
	for n := range 3 {
		words(every, n, f)
	}
	words(raw("00 01 5f 56 60 61 e0 e1 e2 e4 fe ff"), 3, f)
	words(raw("00 01 5f 56 60 61 e0 e1 e2 e4 fe ff"), 4, f)
	words(raw("00 5f e0 e1 ff fd"), 6, f)
	d := chance(1)
	for range 30000 {
		f(drawn(d))
	}
}

// 4.1, and the model itself: so many instructions there are.
func TestModelCounts(t *testing.T) {
	if n := len(instructions()); n != 153 {
		t.Errorf("%d instructions", n)
	}
}
