package code

import (
	"vouch/api"
	"vouch/op"
)

// The instructions whose immediate bytes lead somewhere, or name something.
const (
	dataLoadN  = 0xd1
	rJump      = 0xe0
	rJumpI     = 0xe1
	rJumpV     = 0xe2
	callF      = 0xe3
	jumpF      = 0xe5
	eofCreate  = 0xec
	returnCode = 0xee
)

// Leads: the places to which an instruction's jumps lead, in order.
func Leads(i api.Instr) []int {
	if !stands(i) {
		return nil
	}
	switch i.Code {
	case rJump, rJumpI:
		return targets(i.Next, i.Imm)
	case rJumpV:
		return targets(i.Next, i.Imm[1:])
	}
	return nil
}

// Named: the number that an instruction names (of a section, a nested container, a place in the data); false: it names none.
func Named(i api.Instr) (int, bool) {
	if !stands(i) {
		return 0, false
	}
	switch i.Code {
	case callF, jumpF, dataLoadN:
		return int(pair(i.Imm)), true
	case eofCreate, returnCode:
		return int(i.Imm[0]), true
	}
	return 0, false
}

// stands: may it be an instruction of a section? Anybody can make up an Instr, so nothing of it is taken for granted.
func stands(i api.Instr) bool {
	if i.At < 0 || i.At > api.MaxText || i.Next != i.At+1+len(i.Imm) {
		return false
	}
	_, _, fits := op.Needs(i.Code, i.Imm)
	return fits
}

// astray: does a jump of the instruction lead to where none begins?
func astray(i api.Instr, starts []bool) bool {
	for _, to := range Leads(i) {
		if to < 0 || to >= len(starts) || !starts[to] {
			return true
		}
	}
	return false
}

// targets are the places that lie by a row of distances behind next.
func targets(next int, row []byte) []int {
	var places []int
	for ; len(row) > 0; row = row[2:] {
		places = append(places, next+int(int16(pair(row))))
	}
	return places
}

// pair is the number that the first two bytes are.
func pair(b []byte) uint16 {
	return uint16(b[0])<<8 | uint16(b[1])
}
