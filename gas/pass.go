package gas

const (
	keptPart  = 64   // who calls or makes keeps one part of so many
	keptLeast = 5000 // and who calls no less than this
	passLeast = 2300 // with less than this nobody is called
	backPart  = 5    // at most one part of so many, of what was used, is given back
)

// Pass is what passes to a frame that is called; false: too little is left.
func Pass(left uint64) (uint64, bool) {
	kept := max(left/keptPart, keptLeast)
	if left < kept || left-kept < passLeast {
		return 0, false
	}
	return left - kept, true
}

// Make is what passes to a frame that makes an account.
func Make(left uint64) uint64 { return left - left/keptPart }

// Back is what is given back of a gas of which so much is left, by a refund.
func Back(given, left uint64, refund int) uint64 {
	if refund < 0 || left > given {
		return 0
	}
	return min(uint64(refund), (given-left)/backPart)
}
