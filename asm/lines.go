package asm

import "vouch/api"

// term is a word of a text. (A word of 256 bits has the name already.)
type term struct {
	text string
	at   int // its first byte's place in the text
}

// line is a line that has words.
type line struct {
	first  term
	behind []term // those behind the first one that are not taken yet
	end    int    // the place of its 0x0a, or the text's length
}

// split reads the words of the line that begins at a place, and where the line ends.
func split(text string, from int) ([]term, int) {
	const none = -1
	var found []term
	end, begin, hidden := len(text), none, false
	for i, c := range text[from:] {
		at := from + i
		if c == '\n' {
			end = at
			break
		}
		hidden = hidden || c == '#'
		apart := hidden || isBlank(c)
		if apart && begin != none {
			found = append(found, term{text: text[begin:at], at: begin})
			begin = none
		}
		if !apart && begin == none {
			begin = at
		}
	}
	if begin != none {
		found = append(found, term{text: text[begin:end], at: begin})
	}
	return found, end
}

// more: is there a word that is not taken yet?
func (l *line) more() bool { return len(l.behind) > 0 }

// take is the next word, which is to have this form.
func (l *line) take(is form) term {
	if !l.more() {
		giveUp(api.ErrSyntax, l.end)
	}
	next := l.behind[0]
	if !is(next.text) {
		giveUp(api.ErrSyntax, next.at)
	}
	l.behind = l.behind[1:]
	return next
}

// close: no further word is wanted.
func (l *line) close() {
	if l.more() {
		giveUp(api.ErrSyntax, l.behind[0].at)
	}
}
