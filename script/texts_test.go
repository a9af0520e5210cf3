package script_test

import (
	"fmt"
	"strings"
	"testing"

	"vouch/api"
	"vouch/script"
)

const (
	line190  = "line %d: error 190\n"
	tooLong  = "too long\n"
	tooMany  = "too many lines\n"
	oneTells = "account 0x000000000000000000000000000000000000000a 0 7\n"
)

// filled is a text, and behind it so much of a comment that all has so many bytes.
func filled(text string, size int) string { return text + "#" + strings.Repeat("x", size-len(text)-1) }

// 19.1: a text of MaxText bytes is done; of one more nothing is, whatever stands in it.
func TestLongTexts(t *testing.T) {
	one := "account 0xa 0 7\nworld\n"
	holds(t, "MaxText, a comment", filled(one, api.MaxText), oneTells)
	holds(t, "one more, a comment", filled(one, api.MaxText+1), tooLong)
	holds(t, "twice that", filled(one, 2*api.MaxText), tooLong)
	blanks := one + strings.Repeat(" ", api.MaxText-len(one))
	holds(t, "MaxText, blanks", blanks, oneTells)
	holds(t, "one more, a blank", blanks+" ", tooLong)
	holds(t, "one more, a byte 10", blanks+"\n", tooLong)
	ahead := strings.Repeat(" ", api.MaxText-len(one)) + one
	holds(t, "MaxText, blanks ahead", ahead, oneTells)
	holds(t, "MaxText, and the last byte is none", ahead[:api.MaxText-1], oneTells)
	word := strings.Repeat("w", api.MaxText)
	holds(t, "MaxText, one word", word, "line 1: error 190\n")
	holds(t, "one more, one word", word+"w", tooLong)
	holds(t, "MaxText, words of one byte", strings.Repeat("w ", api.MaxText/2), "line 1: error 190\n")
	holds(t, "MaxText, words that none are done with", "world"+strings.Repeat(" w", (api.MaxText-5)/2), "line 1: error 190\n")
	data := (api.MaxText - len("account 1 0 1\ncode 1 0x\naudit 1")) / 2
	long := "account 1 0 1\ncode 1 0x" + strings.Repeat("00", data) + "\naudit 1"
	holds(t, "much code", long, whole(addr(1))+" refused 51 section 0 at 0 path\n")
}

// 19.1: lines are counted up to MaxLines, what stands behind the last byte 10 as one if it has a byte; of one more nothing is done.
func TestManyLines(t *testing.T) {
	for _, line := range []string{"", " ", "#", "# frob", "   ", "\r"} {
		most := strings.Repeat(line+"\n", api.MaxLines-2) + "account 0xa 0 7\nworld"
		want := oneTells
		if line == "\r" {
			want = ""
			for i := range api.MaxLines - 2 {
				want += fmt.Sprintf(line190, i+1)
			}
			want += oneTells
		}
		holds(t, "MaxLines", most, want)
		holds(t, "MaxLines, ended", most+"\n", want)
		holds(t, "one more, a blank", most+"\n ", tooMany)
		holds(t, "one more, ended", most+"\n\n", tooMany)
		holds(t, "one more, a comment", most+"\n#", tooMany)
		holds(t, "one more ahead", "\n"+most, tooMany)
		holds(t, "one more ahead, ended", "world\n"+most+"\n", tooMany)
	}
	holds(t, "MaxLines without a word", strings.Repeat("\n", api.MaxLines), "")
	holds(t, "one more without a word", strings.Repeat("\n", api.MaxLines+1), tooMany)
	holds(t, "one more, not ended", strings.Repeat("\n", api.MaxLines)+" ", tooMany)
	told := script.Run(strings.Repeat("frob\n", api.MaxLines))
	if lines := strings.Count(told, "\n"); lines != api.MaxLines || !strings.HasSuffix(told, "line 9999: error 190\nline 10000: error 190\n") {
		t.Errorf("MaxLines refused: %d lines are told", lines)
	}
}

// 19.1, R2: of a text with too many bytes and too many lines it is told that it is too long.
func TestBothTooGreat(t *testing.T) {
	holds(t, "both", strings.Repeat("\n", api.MaxText+1), tooLong)
	holds(t, "as long as may be", strings.Repeat("\n", api.MaxText), tooMany)
	holds(t, "both, with words", strings.Repeat("account 0xa 0 7\nworld\n", api.MaxText/16), tooLong)
	holds(t, "lines alone", strings.Repeat("account 0xa 0 7\nworld\n", api.MaxLines/2)+"world", tooMany)
}

// 19.1: no text, and lines without words, tell nothing.
func TestNothing(t *testing.T) {
	for _, text := range []string{"", "\n", " ", "  \n", "\n\n\n", " \n  \n   ", "#", "#\n", " #", "# world", "#world\n", "##\n  # frob 1 2\n\n#", "world", "world\n", "# \x00\xff\t\r\n"} {
		holds(t, text, text, "")
	}
}

// 19.1: blanks stand ahead, between and behind in any number; each line's number counts all lines.
func TestBlanks(t *testing.T) {
	for _, x := range []string{" ", "  ", "     ", strings.Repeat(" ", 1000)} {
		line := x + strings.Join([]string{"account", "0xa", "0", "7"}, x) + x
		for _, text := range []string{line + "\n" + x + "world" + x + "\n", line + "\n" + x + "world", line + "\n" + x + "\n" + x + "world\n" + x} {
			holds(t, len(x), text, oneTells)
		}
		holds(t, len(x), x+"\n\n"+x+"#"+x+"\n"+x+"frob"+x+"x"+"\n"+line+"\nworld", "line 4: error 190\n"+oneTells)
	}
	holds(t, "words that are run together", "account0xa 0 7\naccount 0xa0 7\naccount 0xa 07\n", "line 1: error 190\nline 2: error 190\nline 3: error 190\n")
}

// 19.1: a comment's first word begins with its sign; a sign elsewhere makes none.
func TestComments(t *testing.T) {
	for _, x := range []struct{ line, tells string }{
		{"#", ""}, {"#world", ""}, {"# world", ""}, {"##", ""}, {"   #   world", ""}, {"#\tworld", ""}, {"#\xff", ""}, {"# frob frob frob", ""},
		{"world", oneTells}, {"  world  ", oneTells},
		{"world #", "line 2: error 190\n"}, {"world # tells all", "line 2: error 190\n"}, {"world#", "line 2: error 190\n"}, {"wor#ld", "line 2: error 190\n"},
		{"call 0xa 0xb 3 5 0x #", "line 2: error 190\n"}, {"audit #1", "line 2: error 190\n"}, {"engine #fast", "line 2: error 190\n"},
		{"\t# world", "line 2: error 190\n"}, {"//", "line 2: error 190\n"}, {";", "line 2: error 190\n"}, {"\uff03", "line 2: error 190\n"},
	} {
		holds(t, x.line, "account 0xa 0 7\n"+x.line, x.tells)
		holds(t, x.line, "account 0xa 0 7\n"+x.line+"\n", x.tells)
	}
}

// 19.1: byte 10 ends a line, byte 32 parts words; every other byte stands in a word, ahead, within and behind.
func TestBytes(t *testing.T) {
	no := "line 2: error 190\n"
	for i := range 256 {
		x := string([]byte{byte(i)})
		ahead, behind, between, alone := no, no, no, no
		switch x {
		case " ":
			ahead, behind, between, alone = oneTells, oneTells, "account 0x000000000000000000000000000000000000000a 1 1\n", ""
		case "\n":
			ahead, behind, between, alone = oneTells, oneTells, "line 2: error 190\nline 3: error 190\n", ""
		case "#":
			ahead, alone = "", ""
		}
		if strings.Contains(between, "error") {
			between += oneTells
		}
		start := "account 0xa 0 7\n"
		holds(t, fmt.Sprintf("byte %d ahead", i), start+x+"world", ahead)
		holds(t, fmt.Sprintf("byte %d behind", i), start+"world"+x, behind)
		holds(t, fmt.Sprintf("byte %d between", i), start+"account 0xa"+x+"1 1\nworld", between)
		holds(t, fmt.Sprintf("byte %d alone", i), start+x, alone)
	}
	for _, x := range []string{"\u00a0", "\u0085", "\u2003", "\u2028", "\u3000", "\ufeff", "\xc2", "\xe2\x80", "\r\n"} {
		want := no
		if x == "\r\n" {
			want = no + no[:5] + "3: error 190\n"
		}
		holds(t, x, "account 0xa 0 7\naccount 0xa"+x+"1 1\nworld", want+oneTells)
	}
	holds(t, "lines that end in two bytes", "account 0xa 0 7\r\nworld\r\n", "line 1: error 190\nline 2: error 190\n")
}
