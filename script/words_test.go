package script_test

import (
	"fmt"
	"strings"
	"testing"

	"vouch/script"
)

// form is a word, and what it is read as; none: it is not what is to stand there.
type form struct{ word, read string }

const (
	most64  = "18446744073709551615"
	most160 = "1461501637330902918203684832716283019655932542975"
	most256 = "115792089237316195423570985008687907853269984665640564039457584007913129639935"
)

// refusedNumbers are words that are no numbers at all.
func refusedNumbers() []form {
	var l []form
	for _, x := range []string{
		"0x", "0X1", "x1", "-1", "+1", "-0", "1.", "1.0", "1e3", "1_0", "0b1", "0o7", "0xg", "0x1g", "1a", "a", "ff", "0x0x1", "0x-1", "#1", "١", "１", "\"1\"", "1\t", "\t1", "0x1\r", "1,2", "one", "checked",
		"115792089237316195423570985008687907853269984665640564039457584007913129639936",
		"999999999999999999999999999999999999999999999999999999999999999999999999999999",
		"0x1" + strings.Repeat("0", 64), "0x0" + strings.Repeat("f", 64), "0x" + strings.Repeat("0", 65),
		strings.Repeat("0", 79), strings.Repeat("0", 78) + "1", strings.Repeat("1", 200),
	} {
		l = append(l, form{x, ""})
	}
	return l
}

// smallNumbers are words that are numbers below 2^64, however they are written.
func smallNumbers() []form {
	return []form{
		{"0", "0"}, {"1", "1"}, {"00", "0"}, {"007", "7"}, {"10", "10"}, {"0x0", "0"}, {"0x00", "0"}, {"0xa", "10"}, {"0xA", "10"}, {"0x0Ff", "255"}, {"0xfF", "255"}, {"255", "255"}, {"4294967296", "4294967296"}, {"9223372036854775808", "9223372036854775808"},
		{most64, most64}, {"0xffffffffffffffff", most64}, {"0xFFFFFFFFFFFFFFFF", most64},
		{strings.Repeat("0", 78), "0"}, {strings.Repeat("0", 77) + "5", "5"}, {strings.Repeat("0", 58) + most64, most64},
		{"0x" + strings.Repeat("0", 64), "0"}, {"0x" + strings.Repeat("0", 48) + strings.Repeat("f", 16), most64},
	}
}

// wideNumbers are words above these that are addresses, and greatNumbers those that are none.
func wideNumbers() []form {
	return []form{
		{"18446744073709551616", "18446744073709551616"}, {"0x10000000000000000", "18446744073709551616"},
		{most160, most160}, {"0x" + strings.Repeat("f", 40), most160}, {"0x" + strings.Repeat("0", 24) + strings.Repeat("F", 40), most160},
	}
}

func greatNumbers() []form {
	return []form{
		{"1461501637330902918203684832716283019655932542976", "1461501637330902918203684832716283019655932542976"},
		{"0x1" + strings.Repeat("0", 40), "1461501637330902918203684832716283019655932542976"},
		{most256, most256}, {"0x" + strings.Repeat("f", 64), most256}, {"0x" + strings.Repeat("F", 64), most256},
	}
}

// barred is these words where they may not stand.
func barred(l []form) []form {
	var out []form
	for _, x := range l {
		out = append(out, form{x.word, ""})
	}
	return out
}

// all is lists, one behind the other.
func all(lists ...[]form) []form {
	var out []form
	for _, l := range lists {
		out = append(out, l...)
	}
	return out
}

// asTold is the line `account`, told of an account with these.
func asTold(address, nonce, balance string) string {
	return fmt.Sprintf("account %s %s %s\n", address, nonce, balance)
}

// 19.2: a NUMBER is what Parse reads, below 2^64.
func TestNumbers(t *testing.T) {
	for _, x := range all(smallNumbers(), barred(wideNumbers()), barred(greatNumbers()), refusedNumbers()) {
		want := "line 1: error 190\n"
		if x.read != "" {
			want = asTold(atA, x.read, "7")
		}
		holds(t, x.word, "account 0xa "+x.word+" 7\nworld", want)
	}
}

// 19.2: a WORD is what Parse reads.
func TestWords(t *testing.T) {
	for _, x := range all(smallNumbers(), wideNumbers(), greatNumbers(), refusedNumbers()) {
		want := "line 1: error 190\n"
		if x.read != "" {
			want = asTold(atA, "3", x.read)
		}
		holds(t, x.word, "account 0xa 3 "+x.word+"\nworld", want)
	}
}

// 19.2: an ADDRESS is what Parse reads, below 2^160; its digits are not counted.
func TestAddresses(t *testing.T) {
	read := map[string]string{
		"0": whole(addr(0)), "1": whole(addr(1)), "5": whole(addr(5)), "7": whole(addr(7)), "10": atA, "255": whole(addr(255)),
		"4294967296":           "0x0000000000000000000000000000000100000000",
		"9223372036854775808":  "0x0000000000000000000000008000000000000000",
		most64:                 "0x000000000000000000000000ffffffffffffffff",
		"18446744073709551616": "0x0000000000000000000000010000000000000000",
		most160:                "0x" + strings.Repeat("f", 40),
	}
	for _, x := range all(smallNumbers(), wideNumbers(), barred(greatNumbers()), refusedNumbers()) {
		want := "line 1: error 190\n"
		if x.read != "" {
			want = asTold(read[x.read], "3", "7")
		}
		holds(t, x.word, "account "+x.word+" 3 7\nworld", want)
	}
}

// rows are words that are bytes, and words that are none.
func rows() []form {
	l := []form{{"0x", ""}, {"0x00", "0x00"}, {"0xff", "0xff"}, {"0x0123456789abcdef", "0x0123456789abcdef"}, {"0x0000", "0x0000"}, {"0x" + strings.Repeat("ab", 5000), "0x" + strings.Repeat("ab", 5000)}}
	for i := range 256 {
		l = append(l, form{fmt.Sprintf("0x%02x", i), fmt.Sprintf("0x%02x", i)})
	}
	return l
}

func noRows() []string {
	return []string{
		"0", "00", "ff", "7", "0x0", "0x1", "0x000", "0x012", "0x" + strings.Repeat("a", 9999), "0xA0", "0x0A", "0xFF", "0xaB", "0xabcdeF", "0X00", "0X", "x00", "x", "0", "0x0g", "0xg0", "0x-1", "0x+1", "0x 0", "0x0x", "0x0x00", "0x0_", "0x00_00", "0x00,", "0x00\t", "\t0x00", "0x00\r", "0xé", "0x\u0661\u0661", "0x\xff\xff", "-0x00", "\"\"", "#", "0x0\x00", "0x\x00\x00", "runtime", "1ef0", "0xef0",
	}
}

// 19.2: HEX is these bytes, or none; small digits alone, and an even number of them.
func TestRows(t *testing.T) {
	start := "account 0xa 0 7\ncode 0xa 0xdada\n"
	for _, x := range rows() {
		want := asTold(atA, "0", "7")
		if x.read != "" {
			want += "code " + atA + " " + x.read + "\n"
		}
		holds(t, x.word, start+"code 0xa "+x.word+"\nworld", want)
	}
	for _, x := range noRows() {
		if strings.Contains(x, " ") {
			continue
		}
		holds(t, x, start+"code 0xa "+x+"\nworld", "line 3: error 190\n"+asTold(atA, "0", "7")+"code "+atA+" 0xdada\n")
	}
	holds(t, "two words", start+"code 0xa 0x 00\nworld", "line 3: error 190\n"+asTold(atA, "0", "7")+"code "+atA+" 0xdada\n")
}

// 19.2: of a HEX's digits each is one of sixteen, at each place.
func TestDigits(t *testing.T) {
	for i := range 256 {
		if i == ' ' || i == '\n' {
			continue
		}
		ok := strings.ContainsRune("0123456789abcdef", rune(i))
		for _, x := range []string{"0x" + string([]byte{byte(i)}) + "0", "0x0" + string([]byte{byte(i)}), "0x00" + string([]byte{byte(i)}) + "f00", "0xff00f" + string([]byte{byte(i)})} {
			if got := script.Run("account 1 0 1\ncode 1 "+x) == ""; got != ok {
				t.Errorf("%q is read: %v, not %v", x, got, ok)
			}
		}
	}
}

// 19.2, 19.3: a hash has 32 bytes.
func TestHashes(t *testing.T) {
	for size := range 70 {
		want := "line 1: error 190\n"
		if size == 32 {
			want = ""
		}
		holds(t, size, "hash 0x"+strings.Repeat("9f", size), want)
	}
	for _, x := range []string{strings.Repeat("9f", 32), "0x" + strings.Repeat("9F", 32), "0x" + strings.Repeat("9f", 31) + "9", "0x" + strings.Repeat("9f", 31) + "9g", "0X" + strings.Repeat("9f", 32), "0", most256, "0x" + strings.Repeat("9f", 32) + "0"} {
		holds(t, x, "hash "+x, "line 1: error 190\n")
	}
}

// 19.2, 19.3: engines and kinds are these words alone.
func TestNames(t *testing.T) {
	for _, x := range []string{"checked", "fast", "runtime", "init", "Checked", "FAST", "Runtime", "INIT", "check", "fas", "fastt", "1", "2", "0x", "0x01", "engine", "judge", "\"fast\"", "fast,", "both"} {
		engine, kind := "line 1: error 190\n", "line 2: error 190\n"
		switch x {
		case "checked", "fast":
			engine = ""
		case "runtime", "init":
			kind = "refused 50 section 0 at 0 path\n"
		}
		holds(t, x, "engine "+x+"\njudge "+x+" 0x", engine+kind)
	}
}
