package asm_test

import (
	"cmp"
	"encoding/hex"
	"fmt"
	"math/big"
	"regexp"
	"slices"
	"strings"

	"vouch/api"
	"vouch/container"
	"vouch/op"
)

// The forms of words, as the chapter tells them.
var (
	wordForm   = regexp.MustCompile(`[^ \t\r]+`)
	numberForm = regexp.MustCompile(`^(0|[1-9][0-9]*|0x[0-9a-fA-F]+)$`)
	outForm    = regexp.MustCompile(`^(never|0|[1-9][0-9]*|0x[0-9a-fA-F]+)$`)
	bytesForm  = regexp.MustCompile(`^0x([0-9a-fA-F]{2})*$`)
	labelForm  = regexp.MustCompile(`^[a-z][a-z0-9_]*:$`)
	targetForm = regexp.MustCompile(`^([a-z][a-z0-9_]*|@(0|-?[1-9][0-9]{0,6}))$`)
)

// modelWord is a word, and where it stands.
type modelWord struct {
	text string
	at   int
}

// modelLine is a line with words.
type modelLine struct {
	words []modelWord
	end   int
}

// modelLines are a text's lines that have words.
func modelLines(text string) []modelLine {
	var lines []modelLine
	from := 0
	for _, piece := range strings.Split(text, "\n") {
		l := modelLine{end: from + len(piece)}
		counts, _, _ := strings.Cut(piece, "#")
		for _, span := range wordForm.FindAllStringIndex(counts, -1) {
			l.words = append(l.words, modelWord{counts[span[0]:span[1]], from + span[0]})
		}
		if len(l.words) > 0 {
			lines = append(lines, l)
		}
		from = l.end + 1
	}
	return lines
}

// want is what a word is to be: its form, and the bounds of a number.
type want struct {
	form     *regexp.Regexp
	low, top int64
	bits     uint // a number below 2 to this; 0: by low and top
}

// wants are the words behind a line's first one: the least of them, and all that may be.
type wants struct {
	least int
	all   []want
}

func exactly(all ...want) wants { return wants{len(all), all} }

// number is what a word is, if it is a number.
func number(text string) *big.Int {
	n, _ := new(big.Int).SetString(text, 0)
	return n
}

// wrong is what is wrong with a word that is to be so.
func (w want) wrong(text string) api.Errno {
	if !w.form.MatchString(text) {
		return api.ErrSyntax
	}
	n := number(text)
	if n == nil || w.form == bytesForm || w.form == targetForm {
		return api.OK
	}
	top := big.NewInt(w.top)
	if w.bits > 0 {
		top.Sub(top.Lsh(big.NewInt(1), w.bits), big.NewInt(1))
	}
	if n.Cmp(big.NewInt(w.low)) < 0 || n.Cmp(top) > 0 {
		return api.ErrArg
	}
	return api.OK
}

// byName are the instructions.
var byName = func() map[string]api.Op {
	all := map[string]api.Op{}
	for row := range op.All() {
		all[row.Name] = row
	}
	return all
}()

// rowOf is the instruction of that name.
func rowOf(name string) (api.Op, bool) {
	row, there := byName[name]
	return row, there
}

// pushed is n of PUSHn; 0 of all others.
func pushed(code int) int {
	if code >= 0x60 && code <= 0x7f {
		return code - 0x5f
	}
	return 0
}

// instructionWants are the words behind an instruction's name.
func instructionWants(row api.Op) wants {
	numbered := func(low, top int64) want { return want{form: numberForm, low: low, top: top} }
	target := want{form: targetForm}
	switch row.Name {
	case "DATALOADN", "CALLF", "JUMPF":
		return exactly(numbered(0, 65535))
	case "EOFCREATE", "RETURNCODE":
		return exactly(numbered(0, 255))
	case "DUPN", "SWAPN":
		return exactly(numbered(1, 256))
	case "EXCHANGE":
		return exactly(numbered(1, 16), numbered(1, 16))
	case "RJUMP", "RJUMPI":
		return exactly(target)
	case "RJUMPV":
		return wants{1, slices.Repeat([]want{target}, 256)}
	}
	if n := pushed(row.Code); n > 0 {
		return exactly(want{form: numberForm, bits: uint(8 * n)})
	}
	return wants{}
}

// modelSectionText is a section that is read: its labels are events, and its jumps.
type modelSectionText struct {
	kind api.Type
	code []byte
}

// modelEvent is a label, or a target, in a section.
type modelEvent struct {
	modelWord
	in         *modelSectionText
	label      bool
	here       int // of a label: the place that it names
	hole, next int // of a target: where the distance goes, and the place behind the instruction
}

// modelOpen is a container whose text has begun.
type modelOpen struct {
	sections []*modelSectionText
	subs     [][]byte
	size     int
	data     []byte
	at       int // of its word data
	around   *modelOpen
	number   int // which it is of those in the one around it
}

// The states of the model: what can come next.
const (
	sectionDue = iota
	codeDue
	subDue
	endDue
	nothingDue
)

// model reads a text line by line, without going into what is nested: it keeps the container in which it is.
type model struct {
	state  int
	now    *modelOpen
	closed []*modelOpen // in the order of their words data
	events []modelEvent // in the order of their words
}

// begins is what is wrong with a line's first word, and what may stand behind it.
func (m *model) begins(first string) (api.Errno, wants) {
	n16 := want{form: numberForm, top: 65535}
	may := map[string]wants{
		"section": exactly(n16, want{form: outForm, top: 65535}, n16),
		"sub":     {0, []want{{form: bytesForm}}},
		"data":    {1, []want{n16, {form: bytesForm}}},
		"bytes":   exactly(want{form: bytesForm}),
		"end":     {},
	}
	due := [][]string{{"section"}, {"section", "sub", "data", "bytes"}, {"sub", "data"}, {"end"}, {}}[m.state]
	if slices.Contains(due, first) {
		return api.OK, may[first]
	}
	if m.state != codeDue {
		return api.ErrSyntax, wants{}
	}
	if labelForm.MatchString(first) {
		return api.OK, wants{}
	}
	if row, there := rowOf(first); there {
		return api.OK, instructionWants(row)
	}
	return api.ErrName, wants{}
}

// looked is the first thing that is wrong with a line.
func (m *model) looked(l modelLine) (api.Errno, int) {
	wrong, may := m.begins(l.words[0].text)
	if wrong != api.OK {
		return wrong, l.words[0].at
	}
	behind := l.words[1:]
	for i, w := range behind {
		if i >= len(may.all) {
			return api.ErrSyntax, w.at
		}
		if wrong := may.all[i].wrong(w.text); wrong != api.OK {
			return wrong, w.at
		}
	}
	if len(behind) < may.least {
		return api.ErrSyntax, l.end
	}
	return api.OK, 0
}

// small is a number that is known to be one.
func small(text string) int { return int(number(text).Int64()) }

// does what a line says that has been looked at.
func (m *model) does(l modelLine) {
	first, behind := l.words[0], l.words[1:]
	switch first.text {
	case "section":
		m.state = codeDue
		s := &modelSectionText{kind: api.Type{In: small(behind[0].text), Out: api.NoReturn, Most: small(behind[2].text)}}
		if behind[1].text != "never" {
			s.kind.Out = small(behind[1].text)
		}
		m.now.sections = append(m.now.sections, s)
	case "sub":
		m.state = subDue
		m.now.subs = append(m.now.subs, nil)
		last := len(m.now.subs) - 1
		if len(behind) > 0 {
			m.now.subs[last] = raw(behind[0].text[2:])
			return
		}
		m.state = sectionDue
		m.now = &modelOpen{around: m.now, number: last}
	case "data":
		m.now.at, m.now.size = first.at, small(behind[0].text)
		if len(behind) > 1 {
			m.now.data = raw(behind[1].text[2:])
		}
		m.closed = append(m.closed, m.now)
		m.state = endDue
		if m.now.around == nil {
			m.state = nothingDue
		}
	case "end":
		m.state, m.now = subDue, m.now.around
	default:
		m.codes(m.now.sections[len(m.now.sections)-1], first, behind)
	}
}

// codes lays what a line of code says behind a section.
func (m *model) codes(s *modelSectionText, first modelWord, behind []modelWord) {
	if first.text == "bytes" {
		s.code = append(s.code, raw(behind[0].text[2:])...)
		return
	}
	row, there := rowOf(first.text)
	if !there {
		m.events = append(m.events, modelEvent{modelWord: modelWord{strings.TrimSuffix(first.text, ":"), first.at}, in: s, label: true, here: len(s.code)})
		return
	}
	s.code = append(s.code, byte(row.Code))
	switch {
	case strings.HasPrefix(row.Name, "RJUMP"):
		if row.Name == "RJUMPV" {
			s.code = append(s.code, byte(len(behind)-1))
		}
		next := len(s.code) + 2*len(behind)
		for _, w := range behind {
			m.events = append(m.events, modelEvent{modelWord: w, in: s, hole: len(s.code), next: next})
			s.code = append(s.code, 0xaa, 0xaa)
		}
	case row.Name == "DUPN" || row.Name == "SWAPN":
		s.code = append(s.code, byte(small(behind[0].text)-1))
	case row.Name == "EXCHANGE":
		s.code = append(s.code, byte(16*(small(behind[0].text)-1)+small(behind[1].text)-1))
	case len(behind) > 0:
		s.code = append(s.code, number(behind[0].text).FillBytes(make([]byte, row.Imm))...)
	}
}

// named is where each label of each section stands first.
func (m *model) named() map[*modelSectionText]map[string]modelEvent {
	all := map[*modelSectionText]map[string]modelEvent{}
	for _, e := range m.events {
		if all[e.in] == nil {
			all[e.in] = map[string]modelEvent{}
		}
		if _, there := all[e.in][e.text]; e.label && !there {
			all[e.in][e.text] = e
		}
	}
	return all
}

// leads is 16.2's third point: it lays the distances down, up to the first word that is wrong.
func (m *model) leads() (api.Errno, int) {
	named := m.named()
	slices.SortFunc(m.events, func(a, b modelEvent) int { return cmp.Compare(a.at, b.at) })
	for _, e := range m.events {
		label, there := named[e.in][e.text]
		if e.label && label.at != e.at {
			return api.ErrName, e.at
		}
		if e.label {
			continue
		}
		place := label.here
		if digits, told := strings.CutPrefix(e.text, "@"); told {
			place = small(digits)
		} else if !there {
			return api.ErrName, e.at
		}
		distance := place - e.next
		if distance != int(int16(distance)) {
			return api.ErrArg, e.at
		}
		e.in.code[e.hole], e.in.code[e.hole+1] = byte(uint16(distance)>>8), byte(uint16(distance))
	}
	return api.OK, 0
}

// makes is 16.2's fourth point: it makes the containers in the order of their data, up to the first that may not be.
func (m *model) makes() (api.Container, api.Errno, int) {
	var c api.Container
	for _, o := range m.closed {
		c = api.Container{Subs: o.subs, Data: o.data, Size: o.size}
		for _, s := range o.sections {
			c.Types = append(c.Types, s.kind)
			c.Codes = append(c.Codes, s.code)
		}
		b, wrong := container.Serialize(c)
		if wrong != api.OK {
			return api.Container{}, wrong, o.at
		}
		if o.around != nil {
			o.around.subs[o.number] = b
		}
	}
	return c, api.OK, 0
}

// modelParse is 16.2.
func modelParse(text string) (api.Container, api.Errno, int) {
	if len(text) > 1<<20 {
		return api.Container{}, api.ErrLong, 0
	}
	m := model{now: &modelOpen{}}
	for _, l := range modelLines(text) {
		if wrong, at := m.looked(l); wrong != api.OK {
			return api.Container{}, wrong, at
		}
		m.does(l)
	}
	if m.state != nothingDue {
		return api.Container{}, api.ErrSyntax, len(text)
	}
	if wrong, at := m.leads(); wrong != api.OK {
		return api.Container{}, wrong, at
	}
	return m.makes()
}

// modelImm is how many immediate bytes an instruction has that stands first in b; false: they are cut.
func modelImm(row api.Op, b []byte) (int, bool) {
	n := row.Imm
	if n == api.Table {
		if len(b) < 2 {
			return 0, false
		}
		n = 3 + 2*int(b[1])
	}
	return n, len(b) > n
}

// modelWords are the words of an instruction, by the chapter's table.
func modelWords(row api.Op, at int, imm []byte) string {
	var n big.Int
	n.SetBytes(imm)
	switch row.Name {
	case "DATALOADN", "CALLF", "JUMPF", "EOFCREATE", "RETURNCODE":
		return fmt.Sprintf("%s %v\n", row.Name, &n)
	case "DUPN", "SWAPN":
		return fmt.Sprintf("%s %d\n", row.Name, 1+int(imm[0]))
	case "EXCHANGE":
		return fmt.Sprintf("EXCHANGE %d %d\n", 1+imm[0]/16, 1+imm[0]%16)
	case "RJUMP", "RJUMPI", "RJUMPV":
		line, next := row.Name, at+1+len(imm)
		for rest := imm[len(imm)%2:]; len(rest) > 0; rest = rest[2:] {
			line += fmt.Sprintf(" @%d", next+int(int16(uint16(rest[0])*256+uint16(rest[1]))))
		}
		return line + "\n"
	}
	if pushed(row.Code) > 0 {
		return fmt.Sprintf("%s 0x%x\n", row.Name, imm)
	}
	return row.Name + "\n"
}

// modelSection is the text of a section.
func modelSection(t api.Type, b []byte) string {
	out := fmt.Sprint(t.Out)
	if t.Out == api.NoReturn {
		out = "never"
	}
	var text strings.Builder
	fmt.Fprintf(&text, "section %d %s %d\n", t.In, out, t.Most)
	for at := 0; at < len(b); {
		row, there := op.Of(int(b[at]))
		if !there {
			fmt.Fprintf(&text, "bytes 0x%02x\n", b[at])
			at++
			continue
		}
		n, whole := modelImm(row, b[at:])
		if !whole {
			fmt.Fprintf(&text, "bytes 0x%x\n", b[at:])
			break
		}
		text.WriteString(modelWords(row, at, b[at+1:at+1+n]))
		at += 1 + n
	}
	return text.String()
}

// modelText is the text of a container that may be, however long.
func modelText(c api.Container) string {
	var text strings.Builder
	for i, t := range c.Types {
		text.WriteString(modelSection(t, c.Codes[i]))
	}
	for _, b := range c.Subs {
		if sub, no := container.Parse(b, true); no.Code == api.OK {
			text.WriteString("sub\n" + modelText(sub) + "end\n")
		} else {
			text.WriteString("sub 0x" + hex.EncodeToString(b) + "\n")
		}
	}
	fmt.Fprintf(&text, "data %d", c.Size)
	if len(c.Data) > 0 {
		fmt.Fprintf(&text, " 0x%x", c.Data)
	}
	return text.String() + "\n"
}

// modelPrint is 16.3.
func modelPrint(c api.Container) (string, api.Errno) {
	if wrong := container.Check(c); wrong != api.OK {
		return "", wrong
	}
	text := modelText(c)
	if len(text) > 1<<20 {
		return "", api.ErrLong
	}
	return text, api.OK
}
