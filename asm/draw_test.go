package asm_test

import (
	"fmt"
	"math/big"
	"math/rand/v2"
	"slices"
	"strings"

	"vouch/api"
	"vouch/container"
	"vouch/op"
)

// drawing draws: the same in each run.
type drawing struct{ *rand.Rand }

func draw(seed uint64) drawing { return drawing{rand.New(rand.NewPCG(seed, 16))} }

func pick[T any](d drawing, l ...T) T { return l[d.IntN(len(l))] }

// one: is it so, in one of n?
func (d drawing) one(n int) bool { return d.IntN(n) == 0 }

func (d drawing) bytes(size int) []byte {
	b := make([]byte, size)
	for i := range b {
		b[i] = byte(d.Uint32())
	}
	return b
}

// rows are all instructions.
var rows = slices.Collect(op.All())

// section is the bytes of a section: any bytes, instructions, or both.
func (d drawing) section() []byte {
	var b []byte
	for range 1 + d.IntN(12) {
		if d.one(5) {
			b = append(b, d.bytes(1+d.IntN(4))...)
			continue
		}
		r := pick(d, rows...)
		if d.one(3) {
			r, _ = rowOf(pick(d, append(withWords, "PUSH1", "PUSH9", "PUSH32")...))
		}
		b = append(b, byte(r.Code))
		n := r.Imm
		if n == api.Table {
			k := pick(d, 0, 1, 2, 3, 40, 255)
			b = append(b, byte(k))
			n = 2*k + 2
		}
		b = append(b, d.bytes(n)...)
	}
	if d.one(3) {
		b = b[:1+d.IntN(len(b))]
	}
	return b
}

// container is one that may be, with others in it.
func (d drawing) container(deep int) api.Container {
	var codes [][]byte
	for range 1 + d.IntN(4) {
		codes = append(codes, d.section())
	}
	c := of(codes...)
	for i := range c.Types {
		c.Types[i].Most = pick(d, 0, 1, 7, 1023)
		if i > 0 {
			c.Types[i].In, c.Types[i].Out = pick(d, 0, 1, 127), pick(d, 0, 3, 127, 128)
		}
	}
	c.Data = d.bytes(pick(d, 0, 0, 1, 5, 300))
	c.Size = len(c.Data) + pick(d, 0, 0, 1, 65535-len(c.Data))
	for range d.IntN(3) * min(deep, 1) {
		c.Subs = append(c.Subs, d.sub(deep-1))
	}
	return c
}

// sub is a nested container: any bytes, one that may be, or one that is spoiled.
func (d drawing) sub(deep int) []byte {
	if d.one(4) {
		return d.bytes(1 + d.IntN(30))
	}
	b := bytesOf(d.container(deep))
	switch {
	case d.one(8):
		return b[:1+d.IntN(len(b))]
	case d.one(8):
		return append(b, d.bytes(1+d.IntN(3))...)
	case d.one(8):
		b[d.IntN(len(b))] ^= byte(1 + d.IntN(255))
	}
	return b
}

// number is a form of a number.
func (d drawing) number(n *big.Int) string {
	switch d.IntN(6) {
	case 0:
		return "0x" + n.Text(16)
	case 1:
		return "0x" + strings.ToUpper(n.Text(16))
	case 2:
		return "0x" + strings.Repeat("0", d.IntN(90)) + n.Text(16)
	}
	return n.String()
}

func (d drawing) small(least, top int) string {
	n := pick(d, least, top, least+d.IntN(top-least+1), least+d.IntN(min(top-least+1, 4)))
	return d.number(big.NewInt(int64(n)))
}

// hex is bytes as a word, in digits of both sizes.
func (d drawing) hex(b []byte) string {
	text := []byte(word(b))
	for i := 2; i < len(text); i++ {
		if d.one(3) {
			text[i] = strings.ToUpper(string(text[i]))[0]
		}
	}
	return string(text)
}

// text is the text of a container, by lines and their words.
func (d drawing) text(deep int) [][]string {
	var lines [][]string
	for i := range 1 + d.IntN(3) {
		first := []string{"section", d.small(0, 127), pick(d, "never", d.small(0, 128)), d.small(0, 1023)}
		if i == 0 {
			first[1], first[2] = pick(d, "0", "0x0"), pick(d, "never", "128", "0x80")
		}
		lines = append(lines, first)
		lines = append(lines, d.code()...)
	}
	for range d.IntN(3) {
		if deep == 0 || d.one(3) {
			lines = append(lines, []string{"sub", d.hex(d.bytes(1 + d.IntN(9)))})
			continue
		}
		lines = append(lines, []string{"sub"})
		lines = append(lines, d.text(deep-1)...)
		lines = append(lines, []string{"end"})
	}
	data := d.bytes(pick(d, 0, 0, 1, 7))
	last := []string{"data", d.small(len(data), 65535)}
	if len(data) > 0 || d.one(2) {
		last = append(last, d.hex(data))
	}
	return append(lines, last)
}

// someNames may be names of labels.
var someNames = []string{"a", "b", "loop", "loop_1", "end", "data", "never", "z9", "x_", "section"}

// code is the lines of a section's code.
func (d drawing) code() [][]string {
	lines := [][]string{{pick(d, rows[:100]...).Name}}
	for len(instructionWantsOf(lines[0][0]).all) > 0 {
		lines[0][0] = pick(d, rows...).Name
	}
	names := slices.Clone(someNames)
	d.Shuffle(len(names), func(i, j int) { names[i], names[j] = names[j], names[i] })
	names = names[:d.IntN(4)]
	for range d.IntN(14) {
		lines = append(lines, d.line(names))
	}
	for _, name := range names {
		at := d.IntN(len(lines) + 1)
		lines = slices.Insert(lines, at, []string{name + ":"})
	}
	return lines
}

// instructionWantsOf are the words behind a name.
func instructionWantsOf(name string) wants {
	row, _ := rowOf(name)
	return instructionWants(row)
}

// line is a line of code that jumps to these names, or to places.
func (d drawing) line(names []string) []string {
	if d.one(8) {
		return []string{"bytes", d.hex(d.bytes(d.IntN(5)))}
	}
	name := pick(d, rows...).Name
	if d.one(2) {
		name = pick(d, withWords...)
	}
	may := instructionWantsOf(name)
	many := len(may.all)
	if many > 2 {
		many = pick(d, 1, 2, 3, 9, 256)
	}
	words := []string{name}
	for _, w := range may.all[:many] {
		switch {
		case w.form == targetForm && len(names) > 0 && d.one(2):
			words = append(words, pick(d, names...))
		case w.form == targetForm:
			words = append(words, fmt.Sprintf("@%d", pick(d, 0, 1, d.IntN(2000), -d.IntN(2000), d.IntN(30000))))
		case w.bits > 0:
			n := new(big.Int).SetBytes(d.bytes(int(w.bits / 8)))
			words = append(words, d.number(n.Rsh(n, uint(pick(d, 0, d.IntN(int(w.bits)))))))
		default:
			words = append(words, d.small(int(w.low), int(w.top)))
		}
	}
	return words
}

// plain is lines as a text, with no more than is needed.
func plain(lines [][]string) string {
	var text strings.Builder
	for _, words := range lines {
		text.WriteString(strings.Join(words, " ") + "\n")
	}
	return text.String()
}

// blanks are some, or at least one.
func (d drawing) blanks(least int) string {
	var text strings.Builder
	for range least + pick(d, 0, 0, 0, 1, 2, 9) {
		text.WriteString(pick(d, " ", " ", "\t", "\r"))
	}
	return text.String()
}

// comment is what may stand behind a line's words.
func (d drawing) comment() string {
	if !d.one(4) {
		return ""
	}
	return "#" + pick(d, "", " x", "STOP", " # ", "\xff\xfe\x00", " section 0 0 0", "é", "\t\r", ":")
}

// dressed is the same lines as a text with blanks, comments and lines without words laid in.
func (d drawing) dressed(lines [][]string) string {
	var text strings.Builder
	for n, words := range lines {
		for d.one(4) {
			text.WriteString(d.blanks(0) + d.comment() + "\n")
		}
		text.WriteString(d.blanks(0))
		for i, w := range words {
			if i > 0 {
				text.WriteString(d.blanks(1))
			}
			text.WriteString(w)
		}
		text.WriteString(d.blanks(0) + d.comment())
		if n < len(lines)-1 || d.one(2) {
			text.WriteString("\n")
		}
	}
	return text.String()
}

// renamed is the same lines with other names for the labels, unlike ones for unlike ones.
func (d drawing) renamed(lines [][]string) [][]string {
	names := slices.Clone(someNames)
	for i := range names {
		names[i] = fmt.Sprintf("%c%d%s", 'a'+d.IntN(26), i, pick(d, "", "_", "x_9"))
	}
	to := func(name string) string { return names[slices.Index(someNames, name)] }
	var other [][]string
	for _, words := range lines {
		words = slices.Clone(words)
		if name, label := strings.CutSuffix(words[0], ":"); label {
			words[0] = to(name) + ":"
		}
		for i, w := range words {
			if strings.HasPrefix(words[0], "RJUMP") && i > 0 && w[0] != '@' {
				words[i] = to(w)
			}
		}
		other = append(other, words)
	}
	return other
}

// strange are words that are mostly wrong where they stand.
var strange = []string{"section", "sub", "end", "data", "bytes", "never", "STOP", "PUSH1", "PUSH32", "EXCHANGE", "RJUMPV", "RJUMP", "a", "a:", "b:", "nowhere", "z9", "0", "1", "01", "256", "257", "65535", "65536", "0x", "0x0", "0x00", "0xzz", "@0", "@-1", "@-0", "@40000", "@-40000", "@9999999", "@12345678", "STOPP", "A:", ":", "é", "\xff", "999999999999999999999", strings.Repeat("9", 100)}

// spoiled turns something in the lines of a text.
func (d drawing) spoiled(lines [][]string) [][]string {
	i := d.IntN(len(lines))
	switch d.IntN(11) {
	case 9:
		if len(lines[i]) == 4 && lines[i][0] == "section" {
			lines[i][1+d.IntN(3)] = pick(d, "0", "1", "128", "129", "1024", "65535")
			break
		}
		fallthrough
	case 10:
		if strings.HasPrefix(lines[i][0], "RJUMP") {
			lines[i][len(lines[i])-1] = pick(d, "@32760", "@32800", "@-32760", "@-32768", "@99999", "a")
			break
		}
		fallthrough
	case 0:
		return slices.Delete(lines, i, i+1)
	case 1:
		return slices.Insert(lines, d.IntN(len(lines)), slices.Clone(lines[i]))
	case 2:
		j := d.IntN(len(lines))
		lines[i], lines[j] = lines[j], lines[i]
	case 3:
		return slices.Insert(lines, i, []string{pick(d, strange...)})
	case 4:
		if at := d.IntN(len(lines[i])); len(lines[i]) > 1 {
			lines[i] = slices.Delete(lines[i], at, at+1)
		}
	case 5:
		lines[i] = slices.Insert(lines[i], d.IntN(len(lines[i])+1), pick(d, strange...))
	default:
		lines[i][d.IntN(len(lines[i]))] = pick(d, strange...)
	}
	return lines
}

// turned turns some bytes of a text.
func (d drawing) turned(text string) string {
	b := []byte(text)
	if len(b) == 0 {
		return text
	}
	at := d.IntN(len(b))
	switch d.IntN(4) {
	case 0:
		return string(b[:at])
	case 1:
		return string(slices.Delete(b, at, at+1))
	case 2:
		b[at] = pick(d, []byte(" \n\t\r#:@0x1aZ_-\xff\x00")...)
	default:
		b = slices.Insert(b, at, pick(d, []byte(" \n\t\r#:@0x1aZ_-\xff\x00")...))
	}
	return string(b)
}

// may: may it be a container's?
func may(c api.Container) bool { return container.Check(c) == api.OK }
