package asm

import (
	"slices"
	"strconv"
	"strings"

	"vouch/api"
	"vouch/code"
	"vouch/container"
	"vouch/op"
)

const figures = "0123456789abcdef"

// writer writes a text.
type writer struct {
	text strings.Builder
}

// line writes a line of words, and gives up where the text is too long.
func (w *writer) line(words ...string) {
	w.text.WriteString(strings.Join(words, " "))
	w.text.WriteByte('\n')
	if w.text.Len() > api.MaxText {
		giveUp(api.ErrLong, 0)
	}
}

// container writes the text of a container that may be.
func (w *writer) container(c api.Container) {
	for n, t := range c.Types {
		w.section(t, c.Codes[n])
	}
	for _, b := range c.Subs {
		w.sub(b)
	}
	words := []string{dataWord, strconv.Itoa(c.Size)}
	if len(c.Data) > 0 {
		words = append(words, hexOf(c.Data))
	}
	w.line(words...)
}

// section writes a section: its first line, and its code.
func (w *writer) section(t api.Type, b []byte) {
	out := strconv.Itoa(t.Out)
	if t.Out == api.NoReturn {
		out = neverWord
	}
	w.line(sectionWord, strconv.Itoa(t.In), out, strconv.Itoa(t.Most))
	for at := 0; at < len(b); {
		at = w.piece(b, at)
	}
}

// piece writes what stands at a place of a section; it is the place behind that.
func (w *writer) piece(b []byte, at int) int {
	i, wrong := code.One(b, at)
	if wrong == api.OK {
		w.line(wordsOf(i)...)
		return i.Next
	}
	next := at + 1
	if wrong == api.ErrImm {
		next = len(b)
	}
	w.line(bytesWord, hexOf(b[at:next]))
	return next
}

// wordsOf are the words of an instruction.
func wordsOf(i api.Instr) []string {
	row, _ := op.Of(i.Code)
	words := []string{row.Name}
	if n, names := code.Named(i); names {
		return append(words, strconv.Itoa(n))
	}
	switch i.Code {
	case dupN, swapN:
		return append(words, counted(i.Imm[0]))
	case exchange:
		return append(words, counted(i.Imm[0]>>4), counted(i.Imm[0]&0xf))
	case rJump, rJumpI, rJumpV:
		return append(words, places(code.Leads(i))...)
	}
	if row.Imm > 0 {
		return append(words, hexOf(i.Imm))
	}
	return words
}

// counted is a number that stands in its byte less 1.
func counted(n byte) string { return strconv.Itoa(int(n) + 1) }

// places are targets.
func places(leads []int) []string {
	var words []string
	for _, place := range leads {
		words = append(words, placeAhead+strconv.Itoa(place))
	}
	return words
}

// sub writes a nested container: as text, if it may be an open one.
func (w *writer) sub(b []byte) {
	c, no := container.Parse(b, true)
	if no.Code != api.OK {
		w.line(subWord, hexOf(b))
		return
	}
	c.Subs = piecesOf(b, c)
	w.line(subWord)
	w.container(c)
	w.line(endWord)
}

// piecesOf is where the nested containers of c stand in b, its bytes. What Parse has copied would be held once for each container around it, as long as these are written: too much, where many are nested in one another.
func piecesOf(b []byte, c api.Container) [][]byte {
	pieces := make([][]byte, len(c.Subs))
	end := len(b) - len(c.Data)
	for n, sub := range slices.Backward(c.Subs) {
		pieces[n] = b[end-len(sub) : end]
		end -= len(sub)
	}
	return pieces
}

// hexOf is bytes as a word.
func hexOf(b []byte) string {
	text := []byte(hexAhead)
	for _, c := range b {
		text = append(text, figures[c>>4], figures[c&0xf])
	}
	return string(text)
}
