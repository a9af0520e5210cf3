package asm_test

import (
	"fmt"
	"math/big"
	"strings"
	"testing"

	"vouch/api"
)

// 16.1: each kind of blank, ahead of words, between them and behind them, alone and many.
func TestBlanks(t *testing.T) {
	for _, blank := range []string{" ", "\t", "\r", "  ", "\t\t", "\r\r", " \t\r ", "\r \t", strings.Repeat("\t \r", 500)} {
		wantRead(t, strings.ReplaceAll(overText, " ", blank), over())
		wantRead(t, strings.ReplaceAll(overText, "\n", blank+"\n"), over())
		wantRead(t, strings.ReplaceAll(overText, "\n", "\n"+blank), over())
		wantRead(t, blank+strings.ReplaceAll(overText, "\n", blank+"\n"+blank), over())
	}
	wantRead(t, strings.ReplaceAll(overText, "\n", "\r\n"), over())
}

// 16.1: nothing else is a blank, or ends a line: it belongs to its word.
func TestNoBlanks(t *testing.T) {
	for _, no := range []string{"\x00", "\x01", "\x0b", "\x0c", "\x1c", "\x7f", "\x85", "\xa0", "\u0085", "\u00a0", "\u2028", "\u3000", "\ufeff", "\xff", "\xc2", ",", ";", "/", "//", "\"", "\\n"} {
		wantRefused(t, head+"STOP"+no+"\n"+tail, api.ErrName, 18)
		wantRefused(t, head+no+"STOP\n"+tail, api.ErrName, 18)
		wantRefused(t, head+"PUSH1 1"+no+"\n"+tail, api.ErrSyntax, 24)
		wantRefused(t, head+"PUSH1"+no+"1\n"+tail, api.ErrName, 18)
		wantRefused(t, head+"STOP "+no+"\n"+tail, api.ErrSyntax, 23)
		wantRefused(t, no+head+"STOP\n"+tail, api.ErrSyntax, 0)
		wantRefused(t, head+"STOP\n"+tail+no, api.ErrSyntax, len(head)+5+len(tail))
	}
}

// 16.1: from a line's first # on nothing counts, wherever it stands.
func TestComments(t *testing.T) {
	for _, comment := range []string{"#", "# a", "##", "#STOPP", "# section 0 never 0", "#\t\r \x00\xff\xfe\u2028", "#" + strings.Repeat("x# ", 700)} {
		for _, ahead := range []string{"", " ", "\t\r"} {
			wantRead(t, strings.ReplaceAll(overText, "\n", ahead+comment+"\n"), over())
			wantRead(t, strings.ReplaceAll(overText, "\n", "\n"+ahead+comment+"\n"), over())
			wantRead(t, ahead+comment+"\n"+overText, over())
			wantRead(t, overText+ahead+comment, over())
			wantRead(t, strings.TrimSuffix(overText, "\n")+ahead+comment, over())
		}
	}
	wantRefused(t, head+"PU#SH1 1\n"+tail, api.ErrName, 18)
	wantRead(t, head+"STOP#P 1\n"+tail, of(raw("00")))
	wantRefused(t, head+"PUSH1 #1\n"+tail, api.ErrSyntax, 26)
	wantRead(t, head+"PUSH1 1#0\n"+tail, of(raw("6001")))
	wantRefused(t, head+"a#:\nSTOP\n"+tail, api.ErrName, 18)
}

// 16.1: lines without words are passed over; the last line may end with a 0x0a, or without.
func TestLinesWithoutWords(t *testing.T) {
	for _, none := range []string{"\n", "\n\n", " \n", "\t\r\n", "#\n", " # STOP\n", strings.Repeat(" \n#\n\n", 100)} {
		wantRead(t, none+overText, over())
		wantRead(t, overText+none, over())
		wantRead(t, strings.ReplaceAll(overText, "\n", "\n"+none), over())
	}
	bare := strings.TrimSuffix(overText, "\n")
	for _, end := range []string{"", "\n", " ", " \n", "#", "\r", "\r\n", "\n\n", "\n#", "\n "} {
		wantRead(t, bare+end, over())
	}
	for _, none := range []string{"", "\n", " ", "#", "#\n", "\r\n\t\n # x", "\n\n\n"} {
		wantRefused(t, none, api.ErrSyntax, len(none))
	}
}

// numbers are forms of a number.
func numbers(n *big.Int) []string {
	digits := n.Text(16)
	return []string{
		n.String(),
		"0x" + digits,
		"0x" + strings.ToUpper(digits),
		"0x0" + digits,
		"0x00" + strings.ToUpper(digits),
		"0x" + strings.Repeat("0", 63) + digits,
		"0x" + strings.Repeat("0", 64) + digits,
		"0x" + strings.Repeat("0", 80) + digits,
		"0x" + strings.Repeat("0", 5000) + digits,
	}
}

// power is 2 to the n.
func power(n uint) *big.Int { return new(big.Int).Lsh(big.NewInt(1), n) }

// plus is n and k.
func plus(n *big.Int, k int64) *big.Int { return new(big.Int).Add(n, big.NewInt(k)) }

// 16.1: numbers in either form, as long as they like.
func TestNumbers(t *testing.T) {
	top := plus(power(256), -1)
	for _, n := range []*big.Int{big.NewInt(0), big.NewInt(1), big.NewInt(9), big.NewInt(10), big.NewInt(0xabcdef), plus(power(64), -1), power(64), plus(power(64), 1), plus(power(128), 5), power(255), plus(top, -1), top} {
		for _, text := range numbers(n) {
			wantRead(t, head+"PUSH32 "+text+"\n"+tail, of(append([]byte{0x7f}, n.FillBytes(make([]byte, 32))...)))
		}
	}
	for _, n := range []*big.Int{power(256), plus(power(256), 1), plus(power(256), 5), power(257), plus(power(320), 7), power(512), power(4096), plus(power(70000), 1)} {
		for _, text := range numbers(n) {
			for _, ahead := range []string{"PUSH32 ", "PUSH1 ", "CALLF ", "DUPN ", "EXCHANGE ", "EOFCREATE "} {
				wantRefused(t, head+ahead+text+"\n"+tail, api.ErrArg, 18+len(ahead))
			}
			wantRefused(t, "section "+text+" never 0\nSTOP\n"+tail, api.ErrArg, 8)
			wantRefused(t, head+"STOP\ndata "+text, api.ErrArg, 28)
		}
	}
	for _, text := range []string{strings.Repeat("9", 78), strings.Repeat("9", 79), "1" + strings.Repeat("0", 90), strings.Repeat("1", 300000), "0x1" + strings.Repeat("0", 64), "0x" + strings.Repeat("f", 300000), "0x" + strings.Repeat("0", 70) + "1" + strings.Repeat("0", 64)} {
		wantRefused(t, head+"PUSH32 "+text+"\n"+tail, api.ErrArg, 25)
	}
	wantRead(t, head+"PUSH1 0x"+strings.Repeat("0", 900000)+"\n"+tail, of(raw("6000")))
	wantRead(t, head+"PUSH2 0x"+strings.Repeat("0", 900000)+"aBc\n"+tail, of(raw("610abc")))
}

// noNumbers are words that are no numbers.
func noNumbers() []string {
	return []string{"0x", "00", "01", "007", "0X1", "0x_1", "0xg", "0x1g", "1a", "a1", "-1", "+1", "-0", "1.0", "1_0", "1,0", "1e3", "0b1", "0o7", "x1", "$1", "'1'", "@1", "never", "1:", "٣", "１", "1\xff", "0x1\xff", "\xff", strings.Repeat("9", 500) + "a", "0" + strings.Repeat("9", 500), "0x" + strings.Repeat("0", 500) + "G", "1\x00"}
}

// 16.1: words that are no numbers are refused for their form, wherever a number is wanted, ahead of any bound.
func TestNoNumbers(t *testing.T) {
	for _, no := range noNumbers() {
		for _, ahead := range []string{"PUSH1 ", "PUSH32 ", "DATALOADN ", "CALLF ", "JUMPF ", "EOFCREATE ", "RETURNCODE ", "DUPN ", "SWAPN ", "EXCHANGE ", "EXCHANGE 1 "} {
			wantRefused(t, head+ahead+no+"\n"+tail, api.ErrSyntax, 18+len(ahead))
		}
		wantRefused(t, "section "+no+" never 0\nSTOP\n"+tail, api.ErrSyntax, 8)
		wantRefused(t, "section 0 never "+no+"\nSTOP\n"+tail, api.ErrSyntax, 16)
		wantRefused(t, head+"STOP\ndata "+no, api.ErrSyntax, 28)
		if no != "never" {
			wantRefused(t, "section 0 "+no+" 0\nSTOP\n"+tail, api.ErrSyntax, 10)
		}
	}
	for _, no := range []string{"Never", "NEVER", "never:", "nev", "nevers", "0xnever"} {
		wantRefused(t, "section 0 "+no+" 0\nSTOP\n"+tail, api.ErrSyntax, 10)
	}
}

// noBytes are words that are no bytes.
func noBytes() []string {
	return []string{"0x0", "0x000", "0x" + strings.Repeat("0", 501), "0X00", "0", "00", "x00", "0x0g", "0xgg", "0x00\xff", "0x\xff", "0x0\xff", "0x\u00e9", "0x00:", "0x-1", "never", "a", "1", "12", "@0", "0x0x", "0x00_00", "0x0_"}
}

// 16.1: bytes: without digits, in small and large ones, and words that are none, wherever bytes are wanted.
func TestBytes(t *testing.T) {
	for _, x := range []struct{ text, bytes string }{
		{"0x", ""}, {"0x00", "00"}, {"0xff", "ff"}, {"0xFF", "ff"}, {"0xaBCdEf01", "abcdef01"}, {"0x0123456789abcdef", "0123456789abcdef"}, {"0xABCDEF", "abcdef"},
	} {
		b := raw(x.bytes)
		wantRead(t, head+"STOP\nbytes "+x.text+"\n"+tail, of(append([]byte{0}, b...)))
		wantRead(t, head+"STOP\ndata 9 "+x.text, declared(of(raw("00")), 9, b))
		wantRead(t, head+"STOP\nsub 0x77"+x.text[2:]+"\n"+tail, with(of(raw("00")), append([]byte{0x77}, b...)))
	}
	for _, no := range noBytes() {
		wantRefused(t, head+"bytes "+no+"\n"+tail, api.ErrSyntax, 24)
		wantRefused(t, head+"STOP\nsub "+no+"\n"+tail, api.ErrSyntax, 27)
		wantRefused(t, head+"STOP\ndata 9 "+no, api.ErrSyntax, 30)
	}
	long := row(60000)
	wantRead(t, head+"bytes "+word(long)+"\n"+tail, of(long))
	wantRead(t, head+"bytes 0x"+strings.ToUpper(word(long)[2:])+"\n"+tail, of(long))
}

// 16.1: names at the edge of their form, as labels and as targets.
func TestNames(t *testing.T) {
	for _, name := range []string{"a", "z", "m", "aa", "a0", "z9", "a_", "a__", "a9_z", "section", "sub", "data", "bytes", "end", "never", "stop", "push1", "x0", "zz_9" + strings.Repeat("q_0", 30000)} {
		wantRead(t, head+"STOP\n"+name+":\nRJUMP "+name+"\n"+tail, of(raw("00 e0 ff fd")))
		wantRead(t, head+"RJUMP "+name+"\nSTOP\n"+name+":\n"+tail, of(raw("e0 00 01 00")))
	}
	for _, no := range []string{"", "A", "_", "_a", "0", "0a", "9", "aB", "a-", "-a", "a.", "a:", "a:b", "@", "@a", "a@", "a\xff", "\xffa", "é", "aé", "ａ", "STOP", "`", "{", "a`", "a{", "a/", "a\x00", "a^"} {
		wantRefused(t, head+"STOP\n"+no+":\n"+tail, api.ErrName, 23)
		if no != "" {
			wantRefused(t, head+"RJUMP "+no+"\nSTOP\n"+tail, api.ErrSyntax, 24)
			wantRefused(t, head+"a:\nRJUMPV a "+no+" a\nSTOP\n"+tail, api.ErrSyntax, 30)
		}
	}
	for _, no := range []string{"a", "end", "never", "a :", ": a", "a:a:", "Section", "SECTION", "Data", "stop", "Stop", "sections", "dat", "STOP:", "PUSH", "PUSH01", "PUSH33", "DUP0", "DUP17", "SWAP0", "LOG5", "0x00", "@0", "1"} {
		wantRefused(t, head+no+"\n"+tail, api.ErrName, 18)
	}
	wantRefused(t, head+"a: STOP\n"+tail, api.ErrSyntax, 21)
	wantRefused(t, head+"a: b:\n"+tail, api.ErrSyntax, 21)
}

// 16.1: targets by places: one to seven digits, a - ahead, a 0 alone; and words that are none.
func TestTargetForms(t *testing.T) {
	for _, place := range []int{0, 1, 9, 10, 99, 100, 999, 1000, 9999, 10000, 32770, -1, -9, -10, -999, -1000, -10000, -32765} {
		d := uint16(place - 3)
		wantRead(t, fmt.Sprintf("%sRJUMP @%d\n%s", head, place, tail), of([]byte{0xe0, byte(d >> 8), byte(d)}))
	}
	for _, far := range []string{"@32771", "@-32766", "@99999", "@-99999", "@100000", "@999999", "@1000000", "@9999999", "@-9999999", "@-1000000"} {
		wantRefused(t, head+"RJUMP "+far+"\n"+tail, api.ErrArg, 24)
	}
	for _, no := range []string{"@", "@-", "@-0", "@00", "@01", "@007", "@-01", "@--1", "@+1", "@+0", "@10000000", "@-10000000", "@12345678", "@00000001", "@" + strings.Repeat("9", 400), "@1a", "@a", "@0x1", "@1_0", "@1:", "@1.", "@@1", "1", "0", "-1", "0x1", "@٣", "@1\xff", "@\xff", "@1@"} {
		for _, ahead := range []string{"RJUMP ", "RJUMPI ", "RJUMPV ", "RJUMPV @0 "} {
			wantRefused(t, head+ahead+no+"\n"+tail, api.ErrSyntax, 18+len(ahead))
		}
	}
}
