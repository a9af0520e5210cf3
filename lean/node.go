package lean

// node is an instruction, linked to those beside it and to those that its jumps lead to.
type node struct {
	prev, next *node
	code       int
	imm        []byte
	ends       bool
	high       int     // how many words there are ahead of it
	to         []*node // where its jumps lead, in order
	in         int     // how many jumps land on it
	on         *node   // where a jump to it goes on to; nil: it lands here
	at         int     // the place at which it is laid
}

// landing is where a jump to the instruction lands. All on the way lead straight there from then on: a way that many jumps take is long for the first one alone.
func (n *node) landing() *node {
	end := n
	for end.on != nil {
		end = end.on
	}
	for n.on != nil {
		next := n.on
		n.on = end
		n = next
	}
	return end
}

// pass leads the jumps to the instruction on to where another one lands.
func (n *node) pass(to *node) {
	n.on = to.landing()
	n.on.in += n.in
	n.in = 0
}

// unlink takes the instruction out of the row.
func (n *node) unlink() {
	n.prev.next, n.next.prev = n.next, n.prev
}

// distance is how far a jump leads from behind the instruction, once both ends are laid.
func (n *node) distance(to *node) int {
	return to.landing().at - n.at - n.size()
}

// size is how many bytes the instruction has.
func (n *node) size() int { return 1 + len(n.imm) }

// aim writes down how far its jumps lead: the distances are the last of its immediate bytes.
func (n *node) aim() {
	row := n.imm[len(n.imm)-2*len(n.to):]
	for i, to := range n.to {
		distance := uint16(n.distance(to))
		row[2*i], row[2*i+1] = byte(distance>>8), byte(distance)
	}
}
