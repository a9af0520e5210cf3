package asm

import (
	"math"

	"vouch/api"
	"vouch/container"
)

// draft is what the text of a container says.
type draft struct {
	sections []*section
	subs     []nested
	data     []byte
	size     int
	at       int // where its word data stands
}

// section is what a text says of a section.
type section struct {
	kind   api.Type
	code   []byte
	labels map[string]int // the place for which each name stands
}

// nested is a nested container: its text, or else its bytes.
type nested struct {
	text  *draft
	bytes []byte
}

// lay puts bytes behind a section's code.
func (s *section) lay(b ...byte) {
	s.code = append(s.code, b...)
}

// declare takes what the last line of a container's text says.
func (d *draft) declare(l *line) {
	d.at = l.first.at
	d.size = l.number(0, math.MaxUint16)
	if l.more() {
		d.data = l.bytes()
	}
	l.close()
}

// container is the container that is drafted. What is nested in it is made first: its word data stands ahead.
func (d *draft) container() api.Container {
	c := api.Container{Data: d.data, Size: d.size}
	for _, s := range d.sections {
		c.Types = append(c.Types, s.kind)
		c.Codes = append(c.Codes, s.code)
	}
	for _, n := range d.subs {
		b := n.made()
		c.Subs = append(c.Subs, b)
	}
	if wrong := container.Check(c); wrong != api.OK {
		giveUp(wrong, d.at)
	}
	return c
}

// made is the bytes of a nested container.
func (n nested) made() []byte {
	if n.text == nil {
		return n.bytes
	}
	b, _ := container.Serialize(n.text.container()) // it has been checked
	return b
}
