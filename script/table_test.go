package script_test

import (
	"fmt"
	"slices"
	"strings"
	"testing"

	"vouch/script"
)

// What a looker tells of a message and its block: the words that it returns, in order.
const (
	sawSelf = iota
	sawFrom
	sawOrigin
	sawValue
	sawPrice
	sawSize
	sawInput
	sawCoinbase
	sawTime
	sawNumber
	sawRandom
	sawLimit
	sawChain
	sawBase
	sawBlobBase
	sawHash1
	sawHash2
	sawHash3
	sawHash256
	sawBlob
	saw
)

// looker is code that returns all that a message and its block are.
func looker() []byte {
	looks := [saw][]byte{
		raw("30"), raw("33"), raw("32"), raw("34"), raw("3a"), raw("36"), raw("5f 35"),
		raw("41"), raw("42"), raw("43"), raw("44"), raw("45"), raw("46"), raw("48"), raw("4a"),
		raw("6001 43 03 40"), raw("6002 43 03 40"), raw("6003 43 03 40"), raw("610100 43 03 40"), raw("5f 49"),
	}
	var code []byte
	for i, look := range looks {
		code = join(code, look, pushed(n(uint64(32*i))), raw("52"))
	}
	return coded(code, pushed(n(0), n(32*saw)), raw("f3"))
}

// hash is one, as a script has it.
func hash(digits string) string { return "0x" + strings.Repeat(digits, 32) }

// ready are the lines of a script that has some of everything: A is rich, B looks, C stops, and both have slots.
func ready() []string {
	return []string{
		"account 0xa 3 1000",
		"account 0xb 1 5", "code 0xb " + row(looker()), "slot 0xb 1 2", "slot 0xb 0xff 3",
		"account 0xc 0 1", "code 0xc " + row(coded(stop)), "slot 0xc 7 8",
		"block 9 8 0xcb 7 6 5 4 3", "hash " + hash("11"), "hash " + hash("22"),
		"engine fast",
	}
}

// look are lines that tell all that a script has, if its accounts are a world.
func look() []string { return []string{"world", "still 0xa 0xb 100000 0x0102"} }

// entry is a row of the table of lines: right words, and what each is to be, A an ADDRESS, N a NUMBER, W a WORD, H bytes, B a hash, E an engine, K a kind.
type entry struct{ line, kinds string }

func table() []entry {
	least := row(coded(stop))
	return []entry{
		{"account 0xd 4 9", "ANW"},
		{"account 0xb 4 9", "ANW"},
		{"code 0xc " + least, "AH"},
		{"slot 0xb 1 7", "AWW"},
		{"slot 0xb 1 0", "AWW"},
		{"drop 0xc", "A"},
		{"block 10 11 0x12 13 14 15 16 17", "NNAWNWWW"},
		{"hash " + hash("33"), "B"},
		{"engine checked", "E"},
		{"engine fast", "E"},
		{"world", ""},
		{"call 0xa 0xc 1 100 0x", "AAWNH"},
		{"still 0xa 0xc 100 0x", "AANH"},
		{"make 0xa 1 50000 0 " + row(maker()) + " 0x", "AWNWHH"},
		{"trace 5 0xa 0xc 1 100 0x", "NAAWNH"},
		{"judge runtime " + least, "KH"},
		{"judge init " + least, "KH"},
		{"print " + least, "H"},
		{"audit 2", "N"},
	}
}

// wrong are words that are not what is to stand there.
func wrong(kind rune) []string {
	numbers := []string{"0x", "-1", "0X1", "1f", "0xg", "1\t", "frob", "#", strings.Repeat("0", 79), "0x1" + strings.Repeat("0", 64), "115792089237316195423570985008687907853269984665640564039457584007913129639936", "0x0" + strings.Repeat("0", 64)}
	bytes := []string{"0", "00", "0x0", "0xA0", "0X00", "0x0g", "frob", "#", "0x000", "ef00"}
	switch kind {
	case 'N':
		return append(numbers, "18446744073709551616", "0x10000000000000000", most160, most256)
	case 'W':
		return numbers
	case 'A':
		return append(numbers, "0x1"+strings.Repeat("0", 40), "1461501637330902918203684832716283019655932542976", most256)
	case 'H':
		return bytes
	case 'B':
		return append(bytes, "0x", "0x00", "0x"+strings.Repeat("11", 31), "0x"+strings.Repeat("11", 33), "0x"+strings.Repeat("AB", 32), "1")
	case 'E':
		return []string{"runtime", "Fast", "CHECKED", "1", "2", "0x", "fas", "fast1", "#"}
	}
	return []string{"checked", "Runtime", "INIT", "1", "2", "0x", "ini", "runtimes", "#"}
}

// right are other words that may stand there.
func right(kind rune) []string {
	numbers := []string{"0", "00", "0x0", "0xfF", "0xFf", strings.Repeat("0", 78), most64, "0xffffffffffffffff"}
	switch kind {
	case 'N':
		return numbers
	case 'W':
		return append(numbers, "18446744073709551616", most160, most256, "0x"+strings.Repeat("F", 64))
	case 'A':
		return append(numbers, "18446744073709551616", most160, "0x"+strings.Repeat("f", 40), "0x"+strings.Repeat("0", 24)+strings.Repeat("F", 40))
	case 'H':
		return []string{"0x", "0x00", "0xff", "0xef0001", "0x0123456789abcdef"}
	case 'B':
		return []string{hash("00"), hash("ff"), hash("9a")}
	case 'E':
		return []string{"checked", "fast"}
	}
	return []string{"runtime", "init"}
}

// behind is what a line behind others tells, and what is told behind it.
func behind(ahead []string, line string, then ...string) string {
	told := script.Run(lines(ahead...))
	all := script.Run(lines(slices.Concat(ahead, []string{line}, then)...))
	return strings.TrimPrefix(all, told)
}

// refusedBehind holds that a line is refused, and has changed nothing.
func refusedBehind(t testing.TB, ahead []string, line string, code int) {
	t.Helper()
	want := fmt.Sprintf("line %d: error %d\n", len(ahead)+1, code) + behind(ahead, "", look()...)
	if got := behind(ahead, line, look()...); got != want {
		t.Errorf("%s: %s", short(line), apart(got, want))
	}
}

// 19.3: what all these tests look at stands ready: each thing that a script has is told.
func TestReady(t *testing.T) {
	got := behind(ready(), "", look()...)
	want := lines("account "+atA+" 3 1000", "account "+atB+" 1 5", "code "+atB+" "+row(looker()), "slot "+atB+" 0x1 0x2", "slot "+atB+" 0xff 0x3", "account "+atC+" 0 1", "code "+atC+" "+row(coded(stop)), "slot "+atC+" 0x7 0x8")
	if !strings.HasPrefix(got, want+"done left ") || !strings.HasSuffix(got, "\n") {
		t.Fatal(apart(got, want))
	}
	told := strings.Fields(got[len(want):])
	words := told[len(told)-1]
	if told[len(told)-2] != "output" || len(words) != 2+64*saw {
		t.Fatalf("it looks so: %s", got[len(want):])
	}
	see := [saw]string{atB, atA, atA, "0x0", "0x0", "0x2", "0x0102" + strings.Repeat("0", 60), "0xcb", "0x8", "0x9", "0x7", "0x6", "0x5", "0x4", "0x3", hash("11"), hash("22"), "0x0", "0x0", "0x0"}
	for i, x := range see {
		if got, want := words[2+64*i:2+64*(i+1)], strings.Repeat("0", 66-len(x))+x[2:]; got != want {
			t.Errorf("word %d: %s, not %s", i, got, want)
		}
	}
}

// 19.3: with right words no line of the table is refused, at its right edges none is refused as no line.
func TestRightWords(t *testing.T) {
	for _, x := range table() {
		if got := behind(ready(), x.line); strings.Contains(got, "error") {
			t.Errorf("%s: %s", x.line, got)
		}
		words := strings.Fields(x.line)
		for i, kind := range x.kinds {
			for _, w := range right(kind) {
				line := strings.Join(slices.Concat(words[:i+1], []string{w}, words[i+2:]), " ")
				if got := behind(ready(), line); strings.Contains(got, "error 190") {
					t.Errorf("%s: %s", line, got)
				}
			}
		}
	}
}

// 19.3, 19.4, W15: with words missing, with more of them, and with none in its right place, each line is refused and changes nothing.
func TestCountOfWords(t *testing.T) {
	for _, x := range table() {
		words := strings.Fields(x.line)
		if len(words) != len(x.kinds)+1 {
			t.Fatalf("%s has other words than %s", x.line, x.kinds)
		}
		for i := 1; i < len(words); i++ {
			refusedBehind(t, ready(), strings.Join(words[:i], " "), 190)
			refusedBehind(t, ready(), strings.Join(slices.Concat(words[:i], words[i+1:]), " "), 190)
			refusedBehind(t, ready(), strings.Join(slices.Concat(words[:i+1], words[i:]), " "), 190)
		}
		for _, more := range []string{"0", "0x", "0x00", "1", "fast", "runtime", "#", "# all", "0 0", words[0], words[len(words)-1]} {
			refusedBehind(t, ready(), x.line+" "+more, 190)
			refusedBehind(t, ready(), words[0]+" "+more+" "+strings.Join(words[1:], " "), 190)
		}
	}
}

// 19.3, 19.4, W15: with each word wrong in turn each line is refused and changes nothing; and with two of them.
func TestWrongWords(t *testing.T) {
	for _, x := range table() {
		words := strings.Fields(x.line)
		for i, kind := range x.kinds {
			for _, w := range wrong(kind) {
				refusedBehind(t, ready(), strings.Join(slices.Concat(words[:i+1], []string{w}, words[i+2:]), " "), 190)
			}
			for j := i + 1; j < len(x.kinds); j++ {
				two := slices.Clone(words)
				two[i+1], two[j+1] = wrong(kind)[0], wrong(rune(x.kinds[j]))[1]
				refusedBehind(t, ready(), strings.Join(two, " "), 190)
			}
		}
	}
}

// 19.3, 19.4: the first word is one of these fifteen, just so.
func TestFirstWords(t *testing.T) {
	for _, x := range table() {
		words := strings.Fields(x.line)
		first, rest := words[0], strings.Join(words[1:], " ")
		for _, other := range []string{strings.ToUpper(first), strings.ToUpper(first[:1]) + first[1:], first[1:], first[:len(first)-1], first + "s", "x" + first, first + ":", "\"" + first + "\"", first + first} {
			refusedBehind(t, ready(), other+" "+rest, 190)
		}
	}
	for _, first := range []string{"frob", "", "0", "0xa", "accounts", "storage", "balance", "nonce", "time", "fast", "checked", "delegate", "create", "send", "run", "validate", "parse", "asm", "load", "help", "quit", "exit", "error", "line", "done", "valid", "|", "-", "\x00", "\xff", "@", "é"} {
		if first != "" {
			refusedBehind(t, ready(), first, 190)
		}
		refusedBehind(t, ready(), first+" 0xa 0 7", 190)
	}
}
