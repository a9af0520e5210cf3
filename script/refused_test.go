package script_test

import (
	"bytes"
	"fmt"
	"strings"
	"testing"

	"vouch/api"
	"vouch/container"
	"vouch/script"
)

// messages are a line of each kind that asks for a message from A to B, with so much value and gas; `still` has no value.
func messages(value, gas string) []string {
	return []string{
		"call 0xa 0xb " + value + " " + gas + " 0x",
		"still 0xa 0xb " + gas + " 0x",
		"make 0xa " + value + " " + gas + " 0 " + row(maker()) + " 0x",
		"trace 5 0xa 0xb " + value + " " + gas + " 0x",
	}
}

// 19.4: `code`, `slot` and `drop` of an account that is not there; that a word is wrong is told ahead of that.
func TestNoAccount(t *testing.T) {
	for _, line := range []string{"code 0xd 0x", "code 0xd 0x00", "slot 0xd 1 2", "slot 0xd 1 0", "drop 0xd", "drop 0", "drop " + most160, "code 1 0x", "slot 0xffff0000000000000000000000000000000b 1 1", "drop 0xffff0000000000000000000000000000000a"} {
		refusedBehind(t, ready(), line, 161)
		refusedBehind(t, nil, line, 161)
	}
	for _, line := range []string{"code 0xd 0x0", "code 0xd", "code 0xd 0x 0x", "slot 0xd 1", "slot 0xd 1 2 3", "slot 0xd 0xg 2", "slot 0xd 1 2x", "drop 0xd 0xd", "drop", "drop 0x", "slot 0xd 1 0x10000000000000000000000000000000000000000000000000000000000000000"} {
		refusedBehind(t, ready(), line, 190)
		refusedBehind(t, nil, line, 190)
	}
}

// 19.4: `trace` of more than MaxLines steps, whatever the run does and whatever exec says; a word that is wrong is told ahead of that.
func TestTooManySteps(t *testing.T) {
	for _, many := range []string{"10001", "0x2711", "20000", "4294967296", "4294967297", "2147483648", "9223372036854775808", most64} {
		for _, rest := range []string{"0xa 0xb 0 100000 0x", "0xa 0xc 0 1 0x", "0xa 0xd 0 0 0x", "0xa 0xb 1001 5 0x", "0xa 0xb 0 4294967296 0x"} {
			refusedBehind(t, ready(), "trace "+many+" "+rest, 2)
		}
		for _, rest := range []string{"", "0xa 0xb 0 100000", "0xa 0xb 0 100000 0x 0x", "0xa 0xb 0 100000 0x0", "0xa " + most256 + " 0 100000 0x"} {
			refusedBehind(t, ready(), strings.TrimSpace("trace "+many+" "+rest), 190)
		}
		refusedBehind(t, append(ready(), "account 0xd 0 0"), "trace "+many+" 0xa 0xb 0 100000 0x", 2)
	}
	for _, many := range []string{"18446744073709551616", "-1", most256} {
		refusedBehind(t, ready(), "trace "+many+" 0xa 0xb 0 100000 0x", 190)
	}
}

// 19.4, 15.2: what exec refuses, by each kind of message and each engine; of two reasons the one that exec names first.
func TestRefusedMessages(t *testing.T) {
	full := make([]string, api.MaxHashes-1) // two are there
	for i := range full {
		full[i] = "hash " + hash("77")
	}
	for _, x := range []struct {
		ahead      string
		value, gas string
		want       int
	}{
		{"", "0", "4294967296", 1},
		{"", "0", most64, 1},
		{"", "1001", "100000", 151},
		{"", most256, "100000", 151},
		{"", "1001", "4294967296", 1},
		{strings.Join(full, "\n"), "0", "100000", 150},
		{strings.Join(full, "\n"), "1001", "100000", 150},
		{strings.Join(full, "\n"), "0", "4294967296", 1},
		{"account 0xd 0 0", "0", "100000", 111},
		{"account 0xc 0 0\ncode 0xc 0x", "0", "100000", 111},
		{"account 0xd 0 0", "0", "4294967296", 111},
		{"account 0xd 0 0", "1001", "100000", 111},
		{"code 0xc 0x", "0", "100000", 112},
		{"account 0xd 1 1\nslot 0xd 1 1", "0", "100000", 112},
		{"code 0xc 0x00", "0", "100000", 113},
		{"code 0xc " + row(maker()), "0", "100000", 113},
		{"code 0xc " + row(fitted(nil, nil, make([]byte, api.MaxDeploy-19), stop)), "0", "100000", 113},
		{"account 0xd 0 " + most256, "0", "100000", 114},
		{"account 0xd 0 " + most256, "1001", "4294967296", 114},
		{"code 0xc 0x00\naccount 0xd 0 0", "0", "100000", 113},
		{"code 0xc 0x00\naccount 2 0 0", "0", "100000", 111},
		{"account 0xd 0 " + most256 + "\ncode 0xc 0x00", "0", "100000", 113},
	} {
		for _, engine := range []string{"engine checked", "engine fast"} {
			ahead := append(ready(), engine)
			if x.ahead != "" {
				ahead = append(ahead, strings.Split(x.ahead, "\n")...)
			}
			for _, line := range messages(x.value, x.gas) {
				want := x.want
				if strings.HasPrefix(line, "still") && want == 151 { // it has no value
					continue
				}
				refusedBehind(t, ahead, line, want)
			}
		}
	}
}

// 19.4: why no account is made: the container, or the address; each ahead of what follows.
func TestRefusedMakes(t *testing.T) {
	large := fitted(nil, nest(coded(stop)), make([]byte, api.MaxInit+1-len(maker())), deploys)
	made := []string{"make 0xa 1 100000 0 " + row(maker()) + " 0x"}
	for _, x := range []struct {
		ahead []string
		line  string
		want  int
	}{
		{nil, "make 0xa 1 100000 0 0x 0x", 153},
		{nil, "make 0xa 1 100000 0 " + row(coded(stop)) + " 0x", 153},
		{nil, "make 0xa 1 100000 0 " + row(maker()) + "00 0x", 153},
		{nil, "make 0xa 1 100000 0 " + row(large) + " 0x", 153},
		{made, "make 0xa 0 100000 0 " + row(maker()) + " 0x", 154},
		{made, "make 0xa 0 100000 0 0x00 0x", 153},
		{made, "make 0xa 1000 100000 0 " + row(maker()) + " 0x", 151},
		{made, "make 0xa 0 4294967296 0 " + row(maker()) + " 0x", 1},
		{[]string{"account 0xa " + most64 + " 1000"}, "make 0xa 0 100000 5 " + row(maker()) + " 0x", 154},
	} {
		refusedBehind(t, append(ready(), x.ahead...), x.line, x.want)
	}
}

// 19.4: what `print` refuses: Parse's Code, of an open container, or Print's error.
func TestRefusedPrints(t *testing.T) {
	least := coded(stop)
	turned := func(at int, to byte) string {
		b := bytes.Clone(least)
		b[at] = to
		return row(b)
	}
	for _, x := range []struct {
		what string
		want int
	}{
		{"0x", 50}, {"0xef", 50}, {"0xee", 51}, {"0xef01", 51}, {"0xef0002", 52}, {turned(3, 9), 53}, {turned(5, 5), 54}, {turned(8, 2), 55}, {turned(10, 0), 56},
		{"0xef0001" + "010004" + "0200010001" + "030000", 57}, {row(append(bytes.Clone(least), 0)), 58}, {turned(15, 1), 59}, {turned(17, 4), 59},
		{row(least[:19]), 50}, {turned(14, 1), 53}, {turned(11, 4), 53},
	} {
		refusedBehind(t, ready(), "print "+x.what, x.want)
	}
	wide := api.Container{}
	for range 5 { // five sections of NOPs: their text is four times as long
		wide.Types = append(wide.Types, api.Type{Out: never})
		wide.Codes = append(wide.Codes, bytes.Repeat([]byte{0x5b}, 60000))
	}
	b, _ := container.Serialize(wide)
	refusedBehind(t, ready(), "print "+row(b), 2)
	wide.Types, wide.Codes = wide.Types[:4], wide.Codes[:4]
	b, _ = container.Serialize(wide)
	if got := behind(ready(), "print "+row(b)); strings.Count(got, "\n") != 4*60001+1 || strings.Count(got, "| NOP\n") != 4*60000 {
		t.Errorf("a long text: %s", short(got))
	}
}

// 19.4: what `audit` refuses; it asks nothing else of the accounts.
func TestRefusedAudits(t *testing.T) {
	for _, workers := range []string{"0", "17", "18", "100", "4294967297", most64} {
		refusedBehind(t, ready(), "audit "+workers, 180)
		refusedBehind(t, append(ready(), "account 0xd 0 0", "code 0xc 0x00"), "audit "+workers, 180)
		refusedBehind(t, nil, "audit "+workers, 180)
	}
	tells(t, "account 0xd 0 0\naccount 0xc 0 0\ncode 0xc 0x00\nslot 0xd 1 1\naudit 16", atC+" refused 51 section 0 at 0 path")
}

// 19.4: `judge` and `world` refuse nothing but lines that are none.
func TestNothingElseRefused(t *testing.T) {
	tells(t, "account 0xd 0 0\naccount 0xc 0 "+most256+"\naccount 0xe 0 2\ncode 0xc 0x00\nslot 0xd 1 1\nworld\njudge init 0x\njudge runtime 0x00",
		"account "+atC+" 0 "+most256, "code "+atC+" 0x00", "account "+atD+" 0 0", "slot "+atD+" 0x1 0x1", "account "+whole(e)+" 0 2",
		"refused 50 section 0 at 0 path", "refused 51 section 0 at 0 path")
}

// 19.4: an account that holds nothing may stand in a script; messages are refused till it holds something, or is gone.
func TestEmptyAccount(t *testing.T) {
	for _, engine := range []string{"engine checked\n", "engine fast\n"} {
		text := engine + lines("account 0xa 0 0", "world", "call 0xa 0xb 0 9 0x", "trace 1 0xa 0xb 0 9 0x", "slot 0xa 1 1", "account 0xa 1 0", "still 0xa 0xb 9 0x", "slot 0xa 1 0", "still 0xa 0xb 9 0x", "account 0xa 0 0", "still 0xa 0xb 8 0x", "drop 0xa", "still 0xa 0xb 7 0x")
		tells(t, text, "account "+atA+" 0 0", "line 4: error 111", "line 5: error 111", "line 8: error 112", "done left 9 back 0 steps 0", "line 12: error 111", "done left 7 back 0 steps 0")
	}
}

// 19.4: a line's number counts all lines ahead of it, those without words, comments and refused ones too.
func TestNumbersOfLines(t *testing.T) {
	tells(t, "frob", "line 1: error 190")
	tells(t, "\nfrob", "line 2: error 190")
	tells(t, "\n\n  \n# frob\n#frob\n   # frob   \nfrob\nworld\n\nfrob", "line 7: error 190", "line 10: error 190")
	var text strings.Builder
	var want []string
	for i := 1; i <= api.MaxLines; i++ {
		line := []string{"", "#", "  ", "world", "frob", "drop 5", "audit 0", "engine fast", "print 0x", "trace 10001 1 1 1 1 0x"}[(i*i+i/10)%10]
		text.WriteString(line + "\n")
		if code := map[string]int{"frob": 190, "drop 5": 161, "audit 0": 180, "print 0x": 50, "trace 10001 1 1 1 1 0x": 2}[line]; code > 0 {
			want = append(want, fmt.Sprintf("line %d: error %d", i, code))
		}
	}
	tells(t, text.String(), want...)
	if got := script.Run(strings.Repeat("\n", api.MaxLines-1) + "frob"); got != "line 10000: error 190\n" {
		t.Error(got)
	}
}
