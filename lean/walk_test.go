package lean_test

import (
	"fmt"
	"slices"
	"testing"

	"vouch/api"
)

// walker walks through a section.
type walker struct {
	types   []api.Type
	own     api.Type
	all     []piece
	order   map[int]int
	choices []int
	words   []string // the last one is the topmost
	done    []string
	met     []bool // which instructions
}

// Which instructions leave nothing done; a number: how many words a swap reaches over.
func (w *walker) silent(p piece) bool {
	top := len(w.words) - 1
	swap := func(i, j int) bool {
		w.words[top-i], w.words[top-j] = w.words[top-j], w.words[top-i]
		return true
	}
	push := func(word string) bool {
		w.words = append(w.words, word)
		return true
	}
	switch x := p.code; {
	case x == 0x5b || x == 0xe0:
		return true
	case 0x5f <= x && x <= 0x7f:
		return push(fmt.Sprintf("number %x", slices.Concat(make([]byte, 32-len(p.imm)), p.imm)))
	case 0x80 <= x && x <= 0x8f:
		return push(w.words[top-(x-0x80)])
	case x == 0xe6:
		return push(w.words[top-int(p.imm[0])])
	case 0x90 <= x && x <= 0x9f:
		return swap(0, x-0x8f)
	case x == 0xe7:
		return swap(0, int(p.imm[0])+1)
	case x == 0xe8:
		first := int(p.imm[0]>>4) + 1
		return swap(first, first+int(p.imm[0]&15)+1)
	case x == 0x50:
		w.words = w.words[:top]
		return true
	}
	return false
}

// takes is how many words an instruction takes and leaves that is not silent.
func (w *walker) takes(p piece) (int, int) {
	named := func() api.Type { return w.types[int(p.imm[0])<<8|int(p.imm[1])] }
	switch x := p.code; {
	case x == 0xe3:
		return named().In, named().Out
	case x == 0xe5:
		return named().In, 0
	case x == 0xe4:
		return w.own.Out, 0
	case x == 0x00 || x == 0xfe:
		return 0, 0
	case x == 0xe1 || x == 0xe2:
		return 1, 0
	case x == 0xee || x == 0xf3 || x == 0xfd || x == 0x55 || x == 0x5d || x == 0x52 || x == 0x53:
		return 2, 0
	case x == 0x37 || x == 0x39 || x == 0x3e || x == 0xd3 || x == 0x5e:
		return 3, 0
	case 0xa0 <= x && x <= 0xa4:
		return 2 + x - 0xa0, 0
	case x == 0x08 || x == 0x09:
		return 3, 1
	case x >= 0x01 && x <= 0x0b || x >= 0x10 && x <= 0x14 || x >= 0x16 && x <= 0x18 || x >= 0x1a && x <= 0x1d || x == 0x20:
		return 2, 1
	case slices.Contains([]int{0x15, 0x19, 0x1e, 0x31, 0x35, 0x40, 0x49, 0x51, 0x54, 0x5c, 0xd0, 0xf7}, x):
		return 1, 1
	case x == 0xf8 || x == 0xec:
		return 4, 1
	case x == 0xf9 || x == 0xfb:
		return 3, 1
	case x >= 0x30 && x <= 0x4a || x == 0x59 || x == 0xd1 || x == 0xd2:
		return 0, 1
	}
	panic(fmt.Sprintf("what does %x take?", p.code))
}

// does lays down what an instruction does, and what words it takes; it tells whether the walk is at its end.
func (w *walker) does(p piece) bool {
	takes, leaves := w.takes(p)
	from := len(w.words) - takes
	imm := p.imm
	if len(p.to) > 0 {
		imm = imm[:len(imm)-2*len(p.to)]
	}
	w.done = append(w.done, fmt.Sprintf("%02x %x %q", p.code, imm, w.words[from:]))
	w.words = w.words[:from]
	for i := range leaves {
		w.words = append(w.words, fmt.Sprintf("word %d of %d", i, len(w.done)))
	}
	return p.ends()
}

// onward is the place where it goes on, behind what was done.
func (w *walker) onward(p piece) int {
	switch {
	case p.code == 0xe0:
		return p.to[0]
	case len(p.to) == 0:
		return p.behind()
	}
	choice := 0
	if len(w.choices) > 0 {
		choice, w.choices = w.choices[0], w.choices[1:]
	}
	return append(slices.Clone(p.to), p.behind())[choice%(len(p.to)+1)]
}

// walked is what is done in a walk through a section, till it has ended, goes round for ever, or so much is done.
func walked(c api.Container, s int, choices []int, most int) ([]string, []bool) {
	w := &walker{types: c.Types, own: c.Types[s], all: pieces(c.Codes[s]), order: map[int]int{}, choices: choices}
	for i, p := range w.all {
		w.order[p.at] = i
	}
	for i := range w.own.In {
		w.words = append(w.words, fmt.Sprint("first ", i))
	}
	w.met = make([]bool, len(w.all))
	for at, idle := 0, 0; len(w.done) < most; {
		i := w.order[at]
		p := w.all[i]
		w.met[i] = true
		if w.silent(p) {
			if idle++; idle > len(w.all) { // where nothing is done nothing is chosen: it has been here
				w.done = append(w.done, "for ever")
				break
			}
		} else if idle = 0; w.does(p) {
			break
		}
		at = w.onward(p)
	}
	return w.done, w.met
}

// goesAlike walks through all sections of both by the same drawn choices.
func goesAlike(t testing.TB, g drawing, c, d api.Container, walks int) {
	t.Helper()
	for s := range c.Codes {
		for range walks {
			choices := make([]int, g.IntN(40))
			for i := range choices {
				choices[i] = g.IntN(6)
			}
			most := 1 + g.IntN(60)
			x, _ := walked(c, s, choices, most)
			y, _ := walked(d, s, choices, most)
			if !slices.Equal(x, y) {
				t.Fatalf("%s: section %d by %v: %q; turned into %s: %q", told(c), s, choices, x, told(d), y)
			}
		}
	}
}
