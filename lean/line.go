package lean

import (
	"slices"

	"vouch/api"
	"vouch/code"
	"vouch/flow"
	"vouch/op"
)

// longest is how many bytes a section has at most, if each of its jumps may lead to each of its instructions.
const longest = 32768

// line is the instructions of a level section, linked in a ring: the rim stands ahead of the first one and behind the last one, and is none.
type line struct{ rim *node }

// lineOf is the line of a section of a valid container; false: it is not level.
func lineOf(types []api.Type, section int, b []byte) (line, bool) {
	if len(b) > longest {
		return line{}, false
	}
	heights, _, _ := flow.Heights(types, section, b)
	if slices.ContainsFunc(heights, func(h api.Height) bool { return h.Lo != h.Hi }) {
		return line{}, false
	}
	all, _, _ := code.Scan(b)
	nodes := nodesOf(all, heights)
	aimed(nodes, all, len(b))
	return line{linked(nodes)}, true
}

// nodesOf are the nodes of instructions, not linked yet.
func nodesOf(all []api.Instr, heights []api.Height) []node {
	nodes := make([]node, len(all))
	for i, x := range all {
		row, _ := op.Of(x.Code)
		nodes[i] = node{code: x.Code, imm: x.Imm, ends: row.Ends, high: heights[i].Hi}
	}
	return nodes
}

// aimed links the instructions' jumps, in a section of so many bytes.
func aimed(nodes []node, all []api.Instr, size int) {
	begins := make([]*node, size)
	for i, x := range all {
		begins[x.At] = &nodes[i]
	}
	for i, x := range all {
		for _, place := range code.Leads(x) {
			nodes[i].to = append(nodes[i].to, begins[place])
			begins[place].in++
		}
	}
}

// linked links the instructions in their order, and tells the rim.
func linked(nodes []node) *node {
	rim := &node{code: -1}
	prev := rim
	for i := range nodes {
		n := &nodes[i]
		prev.next, n.prev = n, prev
		prev = n
	}
	prev.next, rim.prev = rim, prev
	return rim
}

// idle: is any instruction idle by these rules?
func (l line) idle(rules []rule) bool {
	for n := l.rim.next; n != l.rim; n = n.next {
		if _, idle := found(rules, n); idle {
			return true
		}
	}
	return false
}

// turn goes by the rules till nothing is idle: for one thing that is gone may make another one idle, far off too.
func (l line) turn(rules []rule) {
	for l.sweep(rules) {
	}
}

// sweep goes through all instructions once; was any idle? It comes from behind, as most of what gets idle by a turn stands ahead of it.
func (l line) sweep(rules []rule) bool {
	turned := false
	for n := l.rim.prev; n != l.rim; {
		r, idle := found(rules, n)
		if !idle {
			n = n.prev
			continue
		}
		n = r.turn(n)
		turned = true
	}
	return turned
}

// found is the first rule by which an instruction is idle; false: it is not.
func found(rules []rule, n *node) (rule, bool) {
	for _, r := range rules {
		if r.idle(n) {
			return r, true
		}
	}
	return rule{}, false
}

// laid is the bytes of the line, and its greatest height.
func (l line) laid() ([]byte, int) {
	size, most := 0, 0
	for n := l.rim.next; n != l.rim; n = n.next {
		n.at = size
		size += n.size()
		most = max(most, n.high)
	}
	b := make([]byte, 0, size)
	for n := l.rim.next; n != l.rim; n = n.next {
		n.aim()
		b = append(append(b, byte(n.code)), n.imm...)
	}
	return b, most
}
