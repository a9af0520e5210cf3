package asm_test

import (
	"fmt"
	"strings"
	"testing"

	"vouch/api"
)

// 16.2, first point: a text of MaxText bytes is read; one of a byte more is too long, whatever it says.
func TestTextLength(t *testing.T) {
	for _, fill := range []string{"\n", " ", "#", "\r", "#x\n", "\xff"} {
		ahead := overText
		if fill == "\xff" {
			ahead += "#"
		}
		text := (ahead + strings.Repeat(fill, most))[:most]
		wantRead(t, text, over())
		wantRefused(t, text+fill[:1], api.ErrLong, 0)
		wantRefused(t, text+text, api.ErrLong, 0)
	}
	text := strings.Repeat("\n", most-len(overText)) + overText
	wantRead(t, text, over())
	wantRefused(t, "\n"+text, api.ErrLong, 0)
	wantRefused(t, strings.Repeat("\n", most), api.ErrSyntax, most)
	wantRefused(t, strings.Repeat("\n", most+1), api.ErrLong, 0)
	wantRefused(t, strings.Repeat("x", most), api.ErrSyntax, 0)
	wantRefused(t, strings.Repeat("x", most+1), api.ErrLong, 0)
}

// all is a text with every kind of line.
const all = `section 0 never 2
PUSH1 0x05
PUSH0
a:
RJUMPI @7
RJUMPV a @3 b
EXCHANGE 1 2
b:
bytes 0x0c
STOP
section 1 2 3
RETF
sub 0x0c0d
sub
section 0 never 0
RJUMP a
a:
STOP
sub
section 0 never 0
STOP
data 0
end
sub 0x01
data 3 0x01
end
sub 0x02
data 2 0x0304
`

// 16.2, second point: wherever a text ends too early; the first line at which it may end is its last.
func TestTextsCut(t *testing.T) {
	lines := strings.SplitAfter(all, "\n")
	begin := 0
	for n, line := range lines[:len(lines)-2] {
		end := begin + len(line)
		for _, text := range []string{all[:end], all[:end-1], all[:end] + "\n# x\n ", all[:end-1] + " # x"} {
			wantRefused(t, text, api.ErrSyntax, len(text))
		}
		if n == 0 {
			wantRefused(t, "", api.ErrSyntax, 0)
		}
		begin = end
	}
	if c, wrong, _ := modelParse(all); wrong != api.OK {
		t.Fatal(wrong)
	} else {
		wantRead(t, all, c)
		wantRead(t, strings.TrimSuffix(all, "\n"), c)
	}
	for end := range len(all) { // and within the words
		c, wrong, at := modelParse(all[:end])
		if wrong == api.OK {
			wantRead(t, all[:end], c)
		} else {
			wantRefused(t, all[:end], wrong, at)
		}
	}
}

// 16.2, second point: a line that lacks words tells it at its 0x0a, or at the text's length.
func TestWordsMissing(t *testing.T) {
	for _, x := range []struct{ ahead, line string }{
		{"", "section"}, {"", "section 0"}, {"", "section 0 never"}, {head, "section"}, {head, "section 1 2"},
		{head, "bytes"}, {head, "PUSH1"}, {head, "PUSH32"}, {head, "CALLF"}, {head, "JUMPF"}, {head, "DATALOADN"}, {head, "EOFCREATE"}, {head, "RETURNCODE"},
		{head, "DUPN"}, {head, "SWAPN"}, {head, "EXCHANGE"}, {head, "EXCHANGE 1"}, {head, "RJUMP"}, {head, "RJUMPI"}, {head, "RJUMPV"},
		{head, "data"}, {head + "sub 0x00\n", "data"}, {head + "sub\n", "section"}, {head + "sub\n" + head, "data"}, {head + "sub\n" + head, "PUSH1"},
	} {
		for _, end := range []string{"", " ", "\t\r", "# x", " # 1 2 3"} {
			text := x.ahead + x.line + end
			wantRefused(t, text, api.ErrSyntax, len(text))
			wantRefused(t, text+"\n", api.ErrSyntax, len(text))
			wantRefused(t, text+"\n1\nSTOP\n"+tail, api.ErrSyntax, len(text))
		}
	}
}

// stands are places of a text: what ahead of it, and which first words may come, beside code.
func stands() []struct {
	ahead string
	code  bool
	may   string
} {
	return []struct {
		ahead string
		code  bool
		may   string
	}{
		{"", false, " section "},
		{"# x\n\n", false, " section "},
		{head, true, " section sub data bytes "},
		{head + "STOP\n", true, " section sub data bytes "},
		{head + "a:\n", true, " section sub data bytes "},
		{head + "STOP\nsection 0 0 0\n", true, " section sub data bytes "},
		{head + "STOP\nsub 0x01\n", false, " sub data "},
		{head + "sub\n", false, " section "},
		{head + "sub\n" + head, true, " section sub data bytes "},
		{head + "sub\n" + head + "sub 0x01\n", false, " sub data "},
		{head + "sub\n" + head + tail, false, " end "},
		{head + "sub\n" + head + tail + "end\n", false, " sub data "},
		{head + "sub\n" + head + "sub\n" + head + tail, false, " end "},
		{head + "sub\n" + head + "sub\n" + head + tail + "end\n", false, " sub data "},
		{head + tail, false, "  "},
		{head + "sub 0x01\n" + tail, false, "  "},
		{head + "sub\n" + head + tail + "end\n" + tail, false, "  "},
	}
}

// 16.2, second point: what a line can begin with, at each place of a text.
func TestFirstWords(t *testing.T) {
	lines := []string{"section 0 0 0", "sub 0x01", "sub", "data 0", "bytes 0x01", "end", "STOP", "PUSH1 1", "a9:", "a", "x", "STOPP", "stop", "0", "0x00", "never", "@0", ":", "End", "end:", "SECTION", "é", "\xff", "-", "section:"}
	for _, s := range stands() {
		for _, line := range lines {
			first, _, _ := strings.Cut(line, " ")
			code := strings.HasSuffix(first, ":") && first != ":" || first == "STOP" || first == "PUSH1"
			wrong := api.ErrSyntax
			if s.code {
				wrong = api.ErrName
			}
			text := s.ahead + line
			if strings.Contains(s.may, " "+first+" ") || s.code && code {
				if first == "data" && strings.Count(s.ahead, "sub\n") == strings.Count(s.ahead, "end\n") {
					continue // it ends the text well
				}
				wantRefused(t, text, api.ErrSyntax, len(text)) // only the text ends too early
				wantRefused(t, text+"\n?", map[bool]api.Errno{true: api.ErrName, false: api.ErrSyntax}[codeBehind(s.code, first)], len(text)+1)
				continue
			}
			wantRefused(t, text, wrong, len(s.ahead))
			wantRefused(t, text+" ?\n?", wrong, len(s.ahead))
			wantRefused(t, s.ahead+"\n \t"+line, wrong, len(s.ahead)+3)
		}
	}
}

// codeBehind: may code stand behind a line that begins so, where code may stand ahead of it, or not?
func codeBehind(ahead bool, first string) bool {
	switch first {
	case "section":
		return true
	case "sub", "data", "end":
		return false
	}
	return ahead
}

// 16.2, second point: of the words of a line the first that is wrong is told.
func TestFirstWrongWord(t *testing.T) {
	for _, x := range []struct {
		line  string
		wrong api.Errno
		at    int
	}{
		{"PUSH1 256 x", api.ErrArg, 6}, {"PUSH1 x 256", api.ErrSyntax, 6}, {"PUSH1 1 256", api.ErrSyntax, 8},
		{"EXCHANGE 17 17", api.ErrArg, 9}, {"EXCHANGE x 17", api.ErrSyntax, 9}, {"EXCHANGE 17 x", api.ErrArg, 9}, {"EXCHANGE 1 17 x", api.ErrArg, 11}, {"EXCHANGE 1 x 17", api.ErrSyntax, 11},
		{"RJUMPV a @x B", api.ErrSyntax, 9}, {"RJUMP a b", api.ErrSyntax, 8}, {"RJUMP @40000 b", api.ErrSyntax, 13}, {"STOP STOP STOP", api.ErrSyntax, 5},
		{"section 0 0 65536 x", api.ErrArg, 12}, {"section 0 0 0 65536", api.ErrSyntax, 14}, {"section x 65536", api.ErrSyntax, 8},
		{"sub 0x0 0x", api.ErrSyntax, 4}, {"sub 0x 0x", api.ErrSyntax, 7}, {"sub sub", api.ErrSyntax, 4}, {"sub end", api.ErrSyntax, 4},
		{"data 65536 x", api.ErrArg, 5}, {"data x 65536", api.ErrSyntax, 5}, {"data 0 x", api.ErrSyntax, 7}, {"data 0 0x x", api.ErrSyntax, 10}, {"data 0x", api.ErrSyntax, 5}, {"data 0 0", api.ErrSyntax, 7},
		{"bytes 0x 0x", api.ErrSyntax, 9}, {"bytes 0x0 x", api.ErrSyntax, 6}, {"a: a:", api.ErrSyntax, 3}, {"a: 0", api.ErrSyntax, 3},
	} {
		wantRefused(t, head+x.line+"\n"+tail, x.wrong, len(head)+x.at)
		wantRefused(t, head+x.line, x.wrong, len(head)+x.at)
		wantRefused(t, head+"STOP\nsub\n"+head+x.line+"\n"+tail+"end\n"+tail, x.wrong, len(head)+9+len(head)+x.at)
	}
	inner := head + "STOP\nsub\n" + head + "STOP\n" + tail
	wantRefused(t, inner+"end end\n"+tail, api.ErrSyntax, len(inner)+4)
	wantRefused(t, inner+"end 0x\n"+tail, api.ErrSyntax, len(inner)+4)
}

// 16.2, third point: labels that stand already, and names without a label.
func TestNamesWrong(t *testing.T) {
	for _, x := range []struct {
		code  string
		wrong api.Errno
		at    int
	}{
		{"a:\na:", api.ErrName, 3}, {"a:\nSTOP\na:", api.ErrName, 8}, {"a:\nb:\nb:\na:", api.ErrName, 6}, {"a:\nb:\na:\nb:", api.ErrName, 6}, {"a:\na:\na:", api.ErrName, 3},
		{"RJUMP a", api.ErrName, 6}, {"RJUMPI a\nb:", api.ErrName, 7}, {"RJUMPV a b c\na:\nc:", api.ErrName, 9}, {"RJUMPV b b b\na:\nc:", api.ErrName, 7}, {"a:\nRJUMPV a a z", api.ErrName, 14},
		{"RJUMP a\na:\na:", api.ErrName, 11}, {"RJUMP b\na:\na:", api.ErrName, 6}, {"a:\na:\nRJUMP b", api.ErrName, 3}, {"a:\nRJUMP b\na:", api.ErrName, 9},
		{"RJUMP aa\na:\naaa:", api.ErrName, 6}, {"RJUMP a_\na:", api.ErrName, 6}, {"RJUMP a\na0:", api.ErrName, 6},
		{"RJUMP @40000\nRJUMP b", api.ErrArg, 6}, {"RJUMP b\nRJUMP @40000", api.ErrName, 6}, {"RJUMP @40000\na:\na:", api.ErrArg, 6}, {"a:\na:\nRJUMP @40000", api.ErrName, 3},
		{"RJUMPV @40000 b", api.ErrArg, 7}, {"RJUMPV b @40000", api.ErrName, 7}, {"RJUMPV @0 @40000 @-40000 b", api.ErrArg, 10},
	} {
		wantRefused(t, head+x.code+"\nSTOP\n"+tail, x.wrong, len(head)+x.at)
		wantRefused(t, head+"a:\nb:\nc:\nSTOP\nsection 0 0 0\n"+x.code+"\nSTOP\n"+tail, x.wrong, len(head)+9+5+14+x.at)
		wantRefused(t, head+"a:\nb:\nSTOP\nsub\n"+head+x.code+"\nSTOP\n"+tail+"end\n"+tail, x.wrong, len(head)+6+5+4+len(head)+x.at)
	}
}

// 16.2, third point: distances at -32768 and 32767, and one beyond, by labels and by places, in every jump.
func TestDistances(t *testing.T) {
	fill := func(size int) string { return "bytes " + word(row(size)) + "\n" }
	for _, x := range []struct {
		jump string
		code byte
		size int // of the instruction
	}{{"RJUMP ", 0xe0, 3}, {"RJUMPI ", 0xe1, 3}, {"RJUMPV ", 0xe2, 4}} {
		b := []byte{x.code}
		if x.code == 0xe2 {
			b = append(b, 0)
		}
		want := append(b, 0x7f, 0xff)
		wantRead(t, head+x.jump+"a\n"+fill(32767)+"a:\nSTOP\n"+tail, of(append(append(want, row(32767)...), 0)))
		wantRead(t, fmt.Sprintf("%s%s@%d\n%s", head, x.jump, 32767+x.size, tail), of(want))
		wantRefused(t, head+x.jump+"a\n"+fill(32768)+"a:\nSTOP\n"+tail, api.ErrArg, len(head)+len(x.jump))
		wantRefused(t, fmt.Sprintf("%s%s@%d\n%s", head, x.jump, 32768+x.size, tail), api.ErrArg, len(head)+len(x.jump))
		want = append(b, 0x80, 0x00)
		back := 32768 - x.size
		wantRead(t, head+"a:\n"+fill(back)+x.jump+"a\n"+tail, of(append(row(back), want...)))
		wantRead(t, fmt.Sprintf("%s%s%s@0\n%s", head, fill(back), x.jump, tail), of(append(row(back), want...)))
		wantRead(t, fmt.Sprintf("%s%s@%d\n%s", head, x.jump, x.size-32768, tail), of(want))
		text := head + "a:\n" + fill(back+1) + x.jump
		wantRefused(t, text+"a\n"+tail, api.ErrArg, len(text))
		wantRefused(t, text+"@0\n"+tail, api.ErrArg, len(text))
		wantRefused(t, fmt.Sprintf("%s%s@%d\n%s", head, x.jump, x.size-32769, tail), api.ErrArg, len(head)+len(x.jump))
	}
	// Of a name that stands twice the first label is its place; the second one is what is wrong.
	text := head + "RJUMP a\na:\n" + fill(33000)
	wantRefused(t, text+"a:\n"+tail, api.ErrName, len(text))
	text = head + "a:\n" + fill(33000) + "RJUMP a\n"
	wantRefused(t, text+"a:\n"+tail, api.ErrArg, len(text)-2)
	// A section may be so long that seven digits are near; it is refused for its length alone.
	text = head + strings.Repeat(fill(60000), 3) + "RJUMP @180003\nRJUMP @147238\nRJUMP @212776\n"
	wantRefused(t, text+tail, api.ErrLong, len(text))
	wantRefused(t, text+"RJUMP @147243\n"+tail, api.ErrArg, len(text)+6)
}

// checked are containers, by text up to their word data, and what is behind it, that Check refuses.
func checked() []struct {
	text, data string
	wrong      api.Errno
} {
	return []struct {
		text, data string
		wrong      api.Errno
	}{
		{head + strings.Repeat("STOP\nsection 0 0 0\n", 1024) + "STOP\n", "0", api.ErrCodes},
		{strings.Repeat("section 0 0 0\n", 1025), "0", api.ErrCodes},
		{head, "0", api.ErrNone},
		{head + "STOP\nsection 0 0 0\n", "0", api.ErrNone},
		{head + "bytes " + word(row(65535)) + "\nSTOP\n", "0", api.ErrLong},
		{head + "STOP\nsection 0 0 0\nbytes " + word(row(65536)) + "\n", "0", api.ErrLong},
		{head + "STOP\n" + strings.Repeat("sub 0x00\n", 257), "0", api.ErrSubs},
		{head + "STOP\n" + strings.Repeat("sub 0x\n", 257), "0", api.ErrSubs},
		{head + "STOP\nsub 0x\n", "0", api.ErrNone},
		{head + "STOP\nsub 0x01\nsub 0x\n", "0", api.ErrNone},
		{head + "STOP\n", "0 0x01", api.ErrArg},
		{head + "STOP\n", "1 0x0102", api.ErrArg},
		{head + "STOP\n", "65535 " + word(row(65536)), api.ErrArg},
		{"section 1 never 1\nSTOP\n", "0", api.ErrType},
		{"section 0 0 0\nSTOP\n", "0", api.ErrType},
		{"section 0 never 1024\nSTOP\n", "0", api.ErrType},
		{head + "STOP\nsection 128 0 0\nSTOP\n", "0", api.ErrType},
		{head + "STOP\nsection 0 129 0\nSTOP\n", "0", api.ErrType},
		{head + "STOP\nsection 0 65535 0\nSTOP\n", "0", api.ErrType},
		{head + "STOP\nsection 0 0 1024\nSTOP\n", "0", api.ErrType},
		{"section 0 0 0\n", "0 0x01", api.ErrNone},
		{"section 0 0 0\nSTOP\nsub 0x\n", "0 0x01", api.ErrNone},
		{"section 0 0 0\nSTOP\n", "0 0x01", api.ErrArg},
	}
}

// 16.2, fourth point: what Check refuses is told at the word data: of the outermost container, and of a nested one ahead of those around it.
func TestChecked(t *testing.T) {
	for _, x := range checked() {
		wantRefused(t, x.text+"data "+x.data, x.wrong, len(x.text))
		wantRefused(t, x.text+" \t data "+x.data+"\n", x.wrong, len(x.text)+3)
		for _, around := range []string{head + "STOP\n", head, "section 0 0 0\nSTOP\n", head + "STOP\nsub 0x\n", head + "STOP\nsub\n" + head + "STOP\n" + tail + "end\n"} {
			ahead := around + "sub\n" + x.text
			wantRefused(t, ahead+"data "+x.data+"\nend\n"+tail, x.wrong, len(ahead))
			wantRefused(t, ahead+"data "+x.data+"\nend\nsub\n"+head+"data 0\nend\ndata 0 0x01\n", x.wrong, len(ahead))
			ahead = around + "sub\n" + around + "sub\n" + x.text
			wantRefused(t, ahead+"data "+x.data+"\nend\ndata 0\nend\n"+tail, x.wrong, len(ahead))
		}
		if strings.Contains(x.text, "sub") {
			continue
		}
		fine := x.text + "sub\n" + head + "STOP\n" + tail + "end\n"
		wantRefused(t, fine+"data "+x.data, x.wrong, len(fine))
		worse := x.text + "sub\n" + head
		wantRefused(t, worse+tail+"end\ndata "+x.data, api.ErrNone, len(worse))
	}
}

// faults are lines of code with a fault, by 16.2's points: the point, the error, and where in the line.
var faults = []struct {
	line  string
	point int
	wrong api.Errno
	at    int
}{
	{"STOPP", 2, api.ErrName, 0},
	{"end", 2, api.ErrName, 0},
	{"PUSH1", 2, api.ErrSyntax, 5},
	{"PUSH1 x", 2, api.ErrSyntax, 6},
	{"PUSH1 256", 2, api.ErrArg, 6},
	{"section 65536 0 0", 2, api.ErrArg, 8},
	{"bytes 0x0", 2, api.ErrSyntax, 6},
	{"RJUMP nowhere", 3, api.ErrName, 6},
	{"RJUMP @70000", 3, api.ErrArg, 6},
	{"RJUMPV @0 @70000", 3, api.ErrArg, 10},
	{"here:", 3, api.ErrName, 0},
	{"section 0 0 0\nsection 0 0 0", 4, api.ErrNone, 0},
}

// 16.2: two faults at once: the one of the earlier point is told, and within a point the first in the text; in one section, in two, and in nested containers.
func TestTwoFaults(t *testing.T) {
	for _, x := range faults {
		for _, y := range faults {
			for _, form := range []string{
				head + "here:\nSTOP\n%s\nSTOP\n%s\nSTOP\n" + tail,
				head + "here:\nSTOP\n%s\nSTOP\nsection 0 0 0\nhere:\n%s\nSTOP\n" + tail,
				head + "here:\nSTOP\n%s\nSTOP\nsub\n" + head + "here:\n%s\nSTOP\n" + tail + "end\n" + tail,
				head + "STOP\nsub\n" + head + "here:\n%s\nSTOP\n" + tail + "end\nsub\n" + head + "here:\n%s\nSTOP\n" + tail + "end\n" + tail,
			} {
				text := fmt.Sprintf(form, x.line, y.line)
				first := strings.Index(form, "%s")
				second := first + len(x.line) + strings.Index(form[first+2:], "%s")
				if x.point == 4 && y.point == 3 && y.line == "here:" && !strings.Contains(form[first:], "here:") {
					continue // a section of its own begins between the two labels
				}
				switch {
				case x.point == 4 && y.point == 4:
					wantRefused(t, text, x.wrong, strings.Index(text, "data"))
				case x.point <= y.point:
					wantRefused(t, text, x.wrong, first+x.at)
				default:
					wantRefused(t, text, y.wrong, second+y.at)
				}
			}
		}
	}
}
