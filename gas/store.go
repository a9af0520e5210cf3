package gas

import (
	"vouch/api"
	"vouch/word"
)

const (
	slotMade    = 19900 // a word where 0 stood when the message began
	slotTurned  = 2800  // another word than stood then
	slotCleared = 4800  // what the refund has while 0 stands where a word stood then
)

// Store: what a word in storage costs beside the table's gas, and by how much the refund changes.
func Store(original, was, is api.Word) (uint64, int) {
	refund := cleared(original, is) - cleared(original, was)
	switch {
	case is == was:
		return 0, 0
	case was == original && word.IsZero(original):
		return slotMade, 0
	case was == original:
		return slotTurned, refund
	case is == original && word.IsZero(original):
		refund += slotMade - slotTurned
		fallthrough
	case is == original: // the first word written there was paid for, and is gone again
		refund += slotTurned
	}
	return 0, refund
}

// cleared is what the refund has of a slot for being cleared, as long as this word stands there: to write another one takes it back.
func cleared(original, there api.Word) int {
	if word.IsZero(there) && !word.IsZero(original) {
		return slotCleared
	}
	return 0
}
