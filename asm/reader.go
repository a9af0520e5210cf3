package asm

import (
	"math"
	"strings"

	"vouch/api"
)

// The words that a line of a container's text can begin with, beside labels and the names of instructions.
const (
	sectionWord = "section"
	bytesWord   = "bytes"
	subWord     = "sub"
	endWord     = "end"
	dataWord    = "data"
)

// reader goes through a text, line by line.
type reader struct {
	text  string
	at    int            // where the next line begins; behind the text's length, if there is none
	codes map[string]int // the instructions by their names
	loose []func()       // what is looked at when all lines are read, in the order of the words
}

// next is the next line that has words; false: there is none.
func (r *reader) next() (*line, bool) {
	for r.at <= len(r.text) {
		terms, end := split(r.text, r.at)
		r.at = end + 1
		if len(terms) > 0 {
			return &line{first: terms[0], behind: terms[1:], end: end}, true
		}
	}
	return nil, false
}

// line is the next line that has words, where the text may not end yet.
func (r *reader) line() *line {
	l, there := r.next()
	if !there {
		giveUp(api.ErrSyntax, len(r.text))
	}
	return l
}

// due is the next line, which can begin with one word alone.
func (r *reader) due(word string) *line {
	l := r.line()
	l.want(word)
	return l
}

// want: the line begins with this word.
func (l *line) want(word string) {
	if l.first.text != word {
		giveUp(api.ErrSyntax, l.first.at)
	}
}

// whole reads the text of a container, and that nothing stands behind it.
func (r *reader) whole() *draft {
	d := r.container()
	if l, there := r.next(); there {
		giveUp(api.ErrSyntax, l.first.at)
	}
	return d
}

// container reads the text of a container, up to its data.
func (r *reader) container() *draft {
	d := new(draft)
	l := r.due(sectionWord)
	for l.first.text == sectionWord {
		s := newSection(l)
		d.sections = append(d.sections, s)
		l = r.code(s)
	}
	for l.first.text == subWord {
		sub := r.sub(l)
		d.subs = append(d.subs, sub)
		l = r.line()
	}
	l.want(dataWord)
	d.declare(l)
	return d
}

// newSection is what its first line says of a section.
func newSection(l *line) *section {
	s := &section{labels: map[string]int{}}
	s.kind.In = l.number(0, math.MaxUint16)
	s.kind.Out = l.out()
	s.kind.Most = l.number(0, math.MaxUint16)
	l.close()
	return s
}

// out takes how many words a section gives back.
func (l *line) out() int {
	t := l.take(isOut)
	if t.text == neverWord {
		return api.NoReturn
	}
	return t.bounded(0, math.MaxUint16)
}

// code reads a section's code; it is the line behind it, which begins another part of the container.
func (r *reader) code(s *section) *line {
	for {
		l := r.line()
		switch l.first.text {
		case sectionWord, subWord, dataWord:
			return l
		}
		r.piece(s, l)
		l.close()
	}
}

// piece reads a line of a section's code.
func (r *reader) piece(s *section, l *line) {
	code, known := r.codes[l.first.text]
	switch {
	case known:
		r.instruction(s, l, code)
	case l.first.text == bytesWord:
		s.lay(l.bytes()...)
	case isLabel(l.first.text):
		r.label(s, l.first)
	default:
		giveUp(api.ErrName, l.first.at)
	}
}

// label lays down what a name stands for in a section.
func (r *reader) label(s *section, t term) {
	name := strings.TrimSuffix(t.text, labelEnd)
	if _, there := s.labels[name]; there {
		r.later(func() { giveUp(api.ErrName, t.at) })
		return
	}
	s.labels[name] = len(s.code)
}

// sub reads a nested container: its bytes, or its text.
func (r *reader) sub(l *line) nested {
	if l.more() {
		sub := nested{bytes: l.bytes()}
		l.close()
		return sub
	}
	d := r.container()
	r.due(endWord).close()
	return nested{text: d}
}

// later keeps a look for when all lines are read: what is wrong with these comes ahead of it, wherever it stands.
func (r *reader) later(look func()) {
	r.loose = append(r.loose, look)
}

// settle makes up for the looks that were kept.
func (r *reader) settle() {
	for _, look := range r.loose {
		look()
	}
}
