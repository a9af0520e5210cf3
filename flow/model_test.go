package flow_test

import (
	"encoding/hex"
	"fmt"
	"math/rand/v2"
	"slices"
	"strings"
	"testing"

	"vouch/api"
	"vouch/flow"
)

// never is Out of a section that never returns.
const never = api.NoReturn

// chance is a source of numbers that gives the same ones in every run.
func chance(seed uint64) *rand.Rand { return rand.New(rand.NewPCG(seed, 7)) }

// raw is bytes written in hexadecimal, with spaces or without.
func raw(text string) []byte {
	b, wrong := hex.DecodeString(strings.ReplaceAll(text, " ", ""))
	if wrong != nil {
		panic(wrong)
	}
	return b
}

// row says of the codes from one to another what they take and leave, by the document's table.
type row struct{ from, to, takes, leaves int }

// table is the document's table, but for what hangs on sections or on immediate bytes.
func table() []row {
	rows := []row{
		{0x00, 0x00, 0, 0}, {0x01, 0x07, 2, 1}, {0x08, 0x09, 3, 1}, {0x0a, 0x0b, 2, 1},
		{0x10, 0x14, 2, 1}, {0x15, 0x15, 1, 1}, {0x16, 0x18, 2, 1}, {0x19, 0x19, 1, 1}, {0x1a, 0x1d, 2, 1}, {0x1e, 0x1e, 1, 1},
		{0x20, 0x20, 2, 1},
		{0x30, 0x30, 0, 1}, {0x31, 0x31, 1, 1}, {0x32, 0x34, 0, 1}, {0x35, 0x35, 1, 1}, {0x36, 0x36, 0, 1}, {0x37, 0x37, 3, 0}, {0x3a, 0x3a, 0, 1}, {0x3d, 0x3d, 0, 1}, {0x3e, 0x3e, 3, 0},
		{0x40, 0x40, 1, 1}, {0x41, 0x48, 0, 1}, {0x49, 0x49, 1, 1}, {0x4a, 0x4a, 0, 1},
		{0x50, 0x50, 1, 0}, {0x51, 0x51, 1, 1}, {0x52, 0x53, 2, 0}, {0x54, 0x54, 1, 1}, {0x55, 0x55, 2, 0}, {0x59, 0x59, 0, 1}, {0x5b, 0x5b, 0, 0}, {0x5c, 0x5c, 1, 1}, {0x5d, 0x5d, 2, 0}, {0x5e, 0x5e, 3, 0}, {0x5f, 0x7f, 0, 1},
		{0xd0, 0xd0, 1, 1}, {0xd1, 0xd2, 0, 1}, {0xd3, 0xd3, 3, 0},
		{0xe0, 0xe0, 0, 0}, {0xe1, 0xe2, 1, 0}, {0xec, 0xec, 4, 1}, {0xee, 0xee, 2, 0},
		{0xf3, 0xf3, 2, 0}, {0xf7, 0xf7, 1, 1}, {0xf8, 0xf8, 4, 1}, {0xf9, 0xf9, 3, 1}, {0xfb, 0xfb, 3, 1}, {0xfd, 0xfd, 2, 0}, {0xfe, 0xfe, 0, 0},
	}
	for n := 1; n <= 16; n++ {
		rows = append(rows, row{0x7f + n, 0x7f + n, n, n + 1}, row{0x8f + n, 0x8f + n, n + 1, n + 1})
	}
	for n := range 5 {
		rows = append(rows, row{0xa0 + n, 0xa0 + n, 2 + n, 0})
	}
	return rows
}

// plain is what a code takes and leaves, by the table; none for those that hang on more, and for what is no instruction.
var plain = func() [256]*row {
	var all [256]*row
	for _, r := range table() {
		for code := r.from; code <= r.to; code++ {
			all[code] = &r
		}
	}
	return all
}()

// there: is the byte an instruction?
func there(code int) bool {
	return plain[code] != nil || 0xe3 <= code && code <= 0xe8
}

// immediate is how many immediate bytes an instruction has, if the first of them is k.
func immediate(code int, k byte) int {
	switch {
	case 0x60 <= code && code <= 0x7f:
		return code - 0x5f
	case code == 0xe2:
		return 3 + 2*int(k)
	case slices.Contains([]int{0xd1, 0xe0, 0xe1, 0xe3, 0xe5}, code):
		return 2
	case slices.Contains([]int{0xe6, 0xe7, 0xe8, 0xec, 0xee}, code):
		return 1
	}
	return 0
}

// last: is nothing behind the instruction reached from it?
func last(code int) bool {
	return slices.Contains([]int{0x00, 0xe0, 0xe4, 0xe5, 0xee, 0xf3, 0xfd, 0xfe}, code)
}

// piece is an instruction of the model.
type piece struct {
	at, code, next int
	imm            []byte
}

// number is what a pair of immediate bytes is.
func (p piece) number(from int) int { return int(p.imm[from])*256 + int(p.imm[from+1]) }

// targets are the places to which the jumps of an instruction lead.
func (p piece) targets() []int {
	from := 0
	switch p.code {
	case 0xe0, 0xe1:
	case 0xe2:
		from = 1
	default:
		return nil
	}
	var to []int
	for ; from < len(p.imm); from += 2 {
		distance := p.number(from)
		if distance >= 1<<15 {
			distance -= 1 << 16
		}
		to = append(to, p.next+distance)
	}
	return to
}

// pieces are the instructions of a section as far as they stand; true, if that is the whole section.
func pieces(b []byte) ([]piece, bool) {
	var all []piece
	for at := 0; at < len(b); {
		code, rest := int(b[at]), b[at+1:]
		if !there(code) || code == 0xe2 && len(rest) == 0 {
			return all, false
		}
		var k byte
		if len(rest) > 0 {
			k = rest[0]
		}
		n := immediate(code, k)
		if n > len(rest) {
			return all, false
		}
		all = append(all, piece{at, code, at + 1 + n, rest[:n]})
		at += 1 + n
	}
	return all, true
}

// modelMayBe is 7.1.
func modelMayBe(types []api.Type, section int, b []byte) bool {
	if section < 0 || section >= len(types) {
		return false
	}
	for _, t := range types {
		if t.In != min(max(t.In, 0), 127) || t.Out != min(max(t.Out, 0), 128) || t.Most != min(max(t.Most, 0), 1023) {
			return false
		}
	}
	all, whole := pieces(b)
	if !whole || len(all) == 0 || !last(all[len(all)-1].code) {
		return false
	}
	starts := map[int]bool{}
	for _, p := range all {
		starts[p.at] = true
	}
	own := types[section].Out
	for _, p := range all {
		for _, to := range p.targets() {
			if !starts[to] {
				return false
			}
		}
		switch p.code {
		case 0xe3:
			if s := p.number(0); s >= len(types) || types[s].Out == never {
				return false
			}
		case 0xe5:
			s := p.number(0)
			if s >= len(types) {
				return false
			}
			if out := types[s].Out; out != never && (own == never || out > own) {
				return false
			}
		case 0xe4:
			if own == never {
				return false
			}
		}
	}
	return true
}

// modelNeeds is 7.2.
func modelNeeds(types []api.Type, section int, p piece) (takes, leaves int) {
	switch p.code {
	case 0xe3:
		s := types[p.number(0)]
		return s.In, s.Out
	case 0xe4:
		return types[section].Out, 0
	case 0xe5:
		return types[p.number(0)].In, 0
	case 0xe6:
		return int(p.imm[0]) + 1, int(p.imm[0]) + 2
	case 0xe7:
		return int(p.imm[0]) + 2, int(p.imm[0]) + 2
	case 0xe8:
		n := int(p.imm[0])/16 + 1 + int(p.imm[0])%16 + 1 + 1
		return n, n
	}
	return plain[p.code].takes, plain[p.code].leaves
}

// crowd is the heights with which walks that only go ahead come to an instruction: true where one does. No interval is kept: its ends are the least and the greatest of these.
type crowd map[int]bool

func (c crowd) ends() (lo, hi int) {
	lo, hi = 1<<30, -1<<30
	for h := range c {
		lo, hi = min(lo, h), max(hi, h)
	}
	return lo, hi
}

// modelHeights is 7.3, by all heights of all walks that only go ahead.
func modelHeights(types []api.Type, section int, b []byte) ([]api.Height, api.Errno, int) {
	if !modelMayBe(types, section, b) {
		return nil, api.ErrArg, 0
	}
	all, _ := pieces(b)
	crowds := map[int]crowd{0: {types[section].In: true}}
	var told []api.Height
	for _, p := range all {
		lo, hi := crowds[p.at].ends()
		told = append(told, api.Height{At: p.at, Lo: lo, Hi: hi})
		if wrong := modelWrong(types, section, p, crowds[p.at]); wrong != api.OK {
			return nil, wrong, p.at
		}
		takes, leaves := modelNeeds(types, section, p)
		to := p.targets()
		if !last(p.code) {
			to = append(to, p.next)
		}
		for _, place := range to {
			if place <= p.at {
				thereLo, thereHi := crowds[place].ends()
				if thereLo != lo-takes+leaves || thereHi != hi-takes+leaves {
					return nil, api.ErrLoop, p.at
				}
				continue
			}
			if crowds[place] == nil {
				crowds[place] = crowd{}
			}
			for h := range crowds[p.at] {
				crowds[place][h-takes+leaves] = true
			}
		}
	}
	return told, api.OK, 0
}

// modelWrong is the clauses 1 to 4 of 7.3.
func modelWrong(types []api.Type, section int, p piece, c crowd) api.Errno {
	if len(c) == 0 {
		return api.ErrDead
	}
	lo, hi := c.ends()
	takes, leaves := modelNeeds(types, section, p)
	if lo < takes && p.code != 0xe4 {
		return api.ErrUnder
	}
	if p.code == 0xe3 || p.code == 0xe5 {
		if s := types[p.number(0)]; hi-s.In+s.Most > 1024 {
			return api.ErrOver
		}
	}
	if p.code != 0xe4 && p.code != 0xe5 && hi-takes+leaves > 1023 {
		return api.ErrOver
	}
	own := types[section].Out
	if p.code == 0xe4 && (lo != own || hi != own) {
		return api.ErrReturn
	}
	if p.code == 0xe5 {
		s := types[p.number(0)]
		if due := own - s.Out + s.In; s.Out != never && (lo != due || hi != due) {
			return api.ErrReturn
		}
	}
	return api.OK
}

// unlike says where Heights answers otherwise than the model; nothing, if it does not.
func unlike(types []api.Type, section int, b []byte) string {
	want, due, place := modelHeights(types, section, b)
	got, wrong, at := flow.Heights(types, section, b)
	if wrong != due || at != place || !slices.Equal(got, want) || wrong != api.OK && got != nil {
		return fmt.Sprintf("Heights(%v, %d, % x): %v, %d, %d; due %v, %d, %d", types, section, b, got, wrong, at, want, due, place)
	}
	return ""
}

// held holds Heights against the model.
func held(t *testing.T, types []api.Type, section int, b []byte) {
	t.Helper()
	if wrong := unlike(types, section, b); wrong != "" {
		t.Fatal(wrong)
	}
}

// refused asks for one error at one place, and holds it against the model too.
func refused(t *testing.T, types []api.Type, section int, b []byte, due api.Errno, place int) {
	t.Helper()
	if told, wrong, at := flow.Heights(types, section, b); told != nil || wrong != due || at != place {
		t.Errorf("Heights(%v, %d, % x): %v, %d, %d; due %d, %d", types, section, b, told, wrong, at, due, place)
	}
	if wrong := unlike(types, section, b); wrong != "" {
		t.Error(wrong)
	}
}

// taken asks for heights, one behind the other: place, lo, hi.
func taken(t *testing.T, types []api.Type, section int, b []byte, want ...int) {
	t.Helper()
	told, wrong, at := flow.Heights(types, section, b)
	if wrong != api.OK || at != 0 || !slices.Equal(told, heights(want...)) {
		t.Errorf("Heights(%v, %d, % x): %v, %d, %d; due %v", types, section, b, told, wrong, at, heights(want...))
	}
	if wrong := unlike(types, section, b); wrong != "" {
		t.Error(wrong)
	}
}

// heights are written as rows of three: place, lo, hi.
func heights(rows ...int) []api.Height {
	var l []api.Height
	for three := range slices.Chunk(rows, 3) {
		l = append(l, api.Height{At: three[0], Lo: three[1], Hi: three[2]})
	}
	return l
}

// typed are types, written as rows of three: in, out, most.
func typed(rows ...int) []api.Type {
	var l []api.Type
	for three := range slices.Chunk(rows, 3) {
		l = append(l, api.Type{In: three[0], Out: three[1], Most: three[2]})
	}
	return l
}

// one is the types of a container with one section.
func one() []api.Type { return typed(0, never, 0) }

// jump is the bytes of a jump by distances; RJUMPV's table has all of them.
func jump(c byte, distances ...int) []byte {
	b := []byte{c}
	if c == 0xe2 {
		b = append(b, byte(len(distances)-1))
	}
	for _, distance := range distances {
		b = append(b, byte(uint16(distance)>>8), byte(distance))
	}
	return b
}

// push is so many PUSH0.
func push(n int) []byte { return slices.Repeat([]byte{0x5f}, n) }

// wide is code behind which the stack is lo to hi words high, if nothing is there at first.
func wide(lo, hi int) []byte {
	return slices.Concat(push(lo+1), jump(0xe1, hi-lo), push(hi-lo))
}

// The model itself: so many instructions there are.
func TestModelCounts(t *testing.T) {
	n := 0
	for code := range 256 {
		if there(code) {
			n++
		}
	}
	if n != 153 {
		t.Errorf("%d instructions", n)
	}
}
