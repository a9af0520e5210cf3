package lean

// The instructions that are looked for; what lies from PUSH0 to DUP16 leaves a word and does nothing else.
const (
	pop   = 0x50
	nop   = 0x5b
	push0 = 0x5f
	dup16 = 0x8f
	rJump = 0xe0
	dupN  = 0xe6
)

// rule is one way for an instruction to be idle: how it is seen, and what is done then.
type rule struct {
	idle func(n *node) bool
	turn func(n *node) *node // the instruction with which to go on
}

// rules are all that there are.
func rules() []rule {
	return []rule{
		{isNop, leaveOut},
		{leadsBehind, leaveOutJump},
		{isDropped, leaveOutBoth},
		{leadsOn, leadThrough},
		{isUnreached, strike},
	}
}

func isNop(n *node) bool { return n.code == nop }

// leaveOut leaves out what does nothing but go on to the next one.
func leaveOut(n *node) *node {
	n.unlink()
	if n.next.landing() == n {
		n.next.on = nil // the next one is an RJUMP that came back to n: it leads to itself now
	}
	n.pass(n.next)
	return n.next
}

// leadsBehind: is it an RJUMP to the next one?
func leadsBehind(n *node) bool {
	return n.code == rJump && n.to[0].landing() == n.next
}

// leaveOutJump leaves out an RJUMP to the next one.
func leaveOutJump(n *node) *node {
	n.next.in--
	return leaveOut(n)
}

// isDropped: is it a word that is left just to be taken by a POP?
func isDropped(n *node) bool {
	return leavesWord(n.code) && n.next.code == pop && n.next.in == 0
}

// leavesWord: does an instruction with this code leave a word, and do nothing else?
func leavesWord(code int) bool {
	return push0 <= code && code <= dup16 || code == dupN
}

// leaveOutBoth leaves out the word, and the POP behind it.
func leaveOutBoth(n *node) *node {
	leaveOut(n.next)
	return leaveOut(n)
}

// leadsOn: is it an RJUMP to which jumps lead, and that leads elsewhere? (A jump is idle by the RJUMP on which it lands.)
func leadsOn(n *node) bool {
	return n.code == rJump && n.in > 0 && n.to[0].landing() != n
}

// leadThrough leads all jumps to an RJUMP on to where that leads. Of RJUMPs in a circle all but one have been led through when the last one's turn comes, and that is where it leads to itself.
func leadThrough(n *node) *node {
	n.pass(n.to[0])
	return n
}

// isUnreached: is it an RJUMP to which no jump leads, and which nothing runs into?
func isUnreached(n *node) bool {
	return n.code == rJump && n.in == 0 && n.prev.ends
}

// strike leaves out an RJUMP that nothing reaches. What was led through it still is.
func strike(n *node) *node {
	n.to[0].landing().in--
	n.unlink()
	return n.prev
}
