package code

import (
	"iter"

	"vouch/api"
	"vouch/op"
)

// each goes through the instructions of bytes that nobody writes over meanwhile.
func each(b []byte) iter.Seq[api.Instr] {
	return func(yield func(api.Instr) bool) {
		for at := 0; at < len(b); {
			i, wrong := One(b, at)
			if wrong != api.OK || !yield(i) {
				return
			}
			at = i.Next
		}
	}
}

// behind is the place behind an instruction that has so many immediate bytes (or a table); false: not all of them stand in b.
func behind(b []byte, at, many int) (int, bool) {
	due := many
	if many == api.Table {
		due = 1
	}
	place := at
over:
	place++
	if due == 0 {
		return place, true
	}
	if place == len(b) {
		return 0, false
	}
	due--
	if many == api.Table && place == at+1 {
		// Only the table's first byte says how many are behind it.
		due = distances(b[place])
	}
	goto over
}

// distances is how many bytes stand in a table of jumps behind its first one.
func distances(k byte) int {
	return 2 * (int(k) + 1)
}

// ends: is nothing behind the instruction reached from it?
func ends(i api.Instr) bool {
	row, _ := op.Of(i.Code)
	return row.Ends
}

// copied is the same bytes in memory of their own.
func copied(b []byte) []byte {
	own := make([]byte, len(b))
	copy(own, b)
	return own
}
