package asm

import (
	"strconv"
	"strings"

	"vouch/api"
	"vouch/op"
)

// The instructions whose words are not just the number that their immediate bytes are.
const (
	rJump = iota + 0xe0
	rJumpI
	rJumpV
	_
	_
	_
	dupN
	swapN
	exchange
)

const (
	mostTargets   = 256 // of a table of jumps
	mostDeep      = 256 // of DUPN and SWAPN
	mostExchange  = 16
	distanceBytes = 2
	leastDistance = -1 << 15
	mostDistance  = 1<<15 - 1
)

// codesByName are the instructions' bytes. Package op goes through its table for each name that it is asked for: too long a way for each line of a text.
func codesByName() map[string]int {
	codes := make(map[string]int, 256)
	for row := range op.All() {
		codes[row.Name] = row.Code
	}
	return codes
}

// instruction reads what stands behind an instruction's name.
func (r *reader) instruction(s *section, l *line, code int) {
	s.lay(byte(code))
	switch code {
	case dupN, swapN:
		n := l.number(1, mostDeep)
		s.lay(byte(n - 1))
	case exchange:
		upper := l.number(1, mostExchange)
		lower := l.number(1, mostExchange)
		s.lay(byte(upper-1)<<4 | byte(lower-1))
	case rJump, rJumpI:
		r.jumps(s, []term{l.take(isTarget)})
	case rJumpV:
		targets := l.targets()
		s.lay(byte(len(targets) - 1))
		r.jumps(s, targets)
	default:
		if row, _ := op.Of(code); row.Imm > 0 {
			s.lay(l.wide(row.Imm)...)
		}
	}
}

// targets takes those of a table of jumps.
func (l *line) targets() []term {
	found := []term{l.take(isTarget)}
	for l.more() && len(found) < mostTargets {
		found = append(found, l.take(isTarget))
	}
	return found
}

// jumps lays an instruction's last bytes: a distance for each target, which is written when all labels are known.
func (r *reader) jumps(s *section, targets []term) {
	hole := len(s.code)
	s.lay(make([]byte, distanceBytes*len(targets))...)
	next := len(s.code)
	for i, t := range targets {
		r.later(func() {
			distance := s.place(t) - next
			if distance < leastDistance || distance > mostDistance {
				giveUp(api.ErrArg, t.at)
			}
			s.write(hole+distanceBytes*i, distance)
		})
	}
}

// place is where a target lies in a section.
func (s *section) place(t term) int {
	if digits, told := strings.CutPrefix(t.text, placeAhead); told {
		n, _ := strconv.Atoi(digits) // its form has been looked at
		return n
	}
	place, there := s.labels[t.text]
	if !there {
		giveUp(api.ErrName, t.at)
	}
	return place
}

// write puts a distance at a place of a section's code.
func (s *section) write(at, distance int) {
	s.code[at] = byte(distance >> 8)
	s.code[at+1] = byte(distance)
}
