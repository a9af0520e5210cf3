package script_test

import (
	"fmt"
	"slices"
	"strings"
	"testing"

	"vouch/api"
	"vouch/call"
	"vouch/script"
)

// sees is what a looker returns: these words in it, all others 0.
func sees(words map[int]string) string {
	var out strings.Builder
	out.WriteString("output 0x")
	for i := range saw {
		x := strings.TrimPrefix(words[i], "0x")
		out.WriteString(strings.Repeat("0", 64-len(x)) + x)
	}
	return out.String()
}

// 19.3: an account that is new has no code and no slot; of one that is there nonce and balance change, nothing else.
func TestAccount(t *testing.T) {
	tells(t, "account 0xa 0 0\nworld", "account "+atA+" 0 0")
	tells(t, "account 0xa 1 2\naccount 0xa 3 4\nworld\naccount 10 0 0\nworld", "account "+atA+" 3 4", "account "+atA+" 0 0")
	tells(t, "account 0xa 1 2\ncode 0xa 0x00\nslot 0xa 5 6\naccount 0xa 3 4\nworld\naccount 0x000a 0 0\nworld",
		"account "+atA+" 3 4", "code "+atA+" 0x00", "slot "+atA+" 0x5 0x6",
		"account "+atA+" 0 0", "code "+atA+" 0x00", "slot "+atA+" 0x5 0x6")
	tells(t, "account 0xa 1 2\ncode 0xa 0x00\nslot 0xa 5 6\naccount 0xb 3 4\naccount 0x9 5 6\nworld",
		"account "+whole(addr(9))+" 5 6", "account "+atA+" 1 2", "code "+atA+" 0x00", "slot "+atA+" 0x5 0x6", "account "+atB+" 3 4")
	tells(t, "account 0 "+most64+" "+most256+"\naccount "+most160+" 0x0 0xff\nworld",
		"account 0x"+strings.Repeat("0", 40)+" "+most64+" "+most256, "account 0x"+strings.Repeat("f", 40)+" 0 255")
}

// 19.3: code is any bytes; it takes the place of what was there; none is none.
func TestCode(t *testing.T) {
	tells(t, "account 0xa 1 2\nslot 0xa 3 4\ncode 0xa 0x0102\nworld\ncode 0xa 0xff\nworld\ncode 0xa 0x\nworld\ncode 0xa 0x00\nworld",
		"account "+atA+" 1 2", "code "+atA+" 0x0102", "slot "+atA+" 0x3 0x4",
		"account "+atA+" 1 2", "code "+atA+" 0xff", "slot "+atA+" 0x3 0x4",
		"account "+atA+" 1 2", "slot "+atA+" 0x3 0x4",
		"account "+atA+" 1 2", "code "+atA+" 0x00", "slot "+atA+" 0x3 0x4")
	tells(t, "account 0xa 1 2\naccount 0xb 1 2\ncode 0xb 0x01\nworld", "account "+atA+" 1 2", "account "+atB+" 1 2", "code "+atB+" 0x01")
}

// 19.3: a slot is set, and set anew, and goes with a value 0; nobody else's is touched.
func TestSlot(t *testing.T) {
	tells(t, "account 0xa 1 2\nslot 0xa 5 0\nworld\nslot 0xa 5 6\nworld\nslot 0xa 5 7\nworld\nslot 0xa 0x05 0x00\nworld\nslot 0xa 5 0\nworld",
		"account "+atA+" 1 2",
		"account "+atA+" 1 2", "slot "+atA+" 0x5 0x6",
		"account "+atA+" 1 2", "slot "+atA+" 0x5 0x7",
		"account "+atA+" 1 2",
		"account "+atA+" 1 2")
	start := "account 0xa 1 2\naccount 0xb 1 2\nslot 0xa 3 1\nslot 0xa 1 2\nslot 0xb 2 9\nslot 0xa 2 3\n"
	tells(t, start+"world", "account "+atA+" 1 2", "slot "+atA+" 0x1 0x2", "slot "+atA+" 0x2 0x3", "slot "+atA+" 0x3 0x1", "account "+atB+" 1 2", "slot "+atB+" 0x2 0x9")
	tells(t, start+"slot 0xa 2 0\nslot 0xa 4 0\nslot 0xb 1 0\nworld", "account "+atA+" 1 2", "slot "+atA+" 0x1 0x2", "slot "+atA+" 0x3 0x1", "account "+atB+" 1 2", "slot "+atB+" 0x2 0x9")
	tells(t, start+"slot 0xa 1 0\nslot 0xa 3 0\nslot 0xb 2 0\nworld", "account "+atA+" 1 2", "slot "+atA+" 0x2 0x3", "account "+atB+" 1 2")
	tells(t, "account 1 0 1\nslot 1 0 "+most256+"\nslot 1 "+most256+" 1\nworld",
		"account "+whole(addr(1))+" 0 1", "slot "+whole(addr(1))+" 0x0 0x"+strings.Repeat("f", 64), "slot "+whole(addr(1))+" 0x"+strings.Repeat("f", 64)+" 0x1")
}

// 19.3: an account goes with all that it has.
func TestDrop(t *testing.T) {
	start := "account 0xa 1 2\ncode 0xa 0x00\nslot 0xa 5 6\naccount 0xb 3 4\nslot 0xb 1 1\naccount 9 0 0\n"
	tells(t, start+"drop 0xa\nworld", "account "+whole(addr(9))+" 0 0", "account "+atB+" 3 4", "slot "+atB+" 0x1 0x1")
	tells(t, start+"drop 0xa\naccount 0xa 0 7\nworld", "account "+whole(addr(9))+" 0 0", "account "+atA+" 0 7", "account "+atB+" 3 4", "slot "+atB+" 0x1 0x1")
	tells(t, start+"drop 9\ndrop 0xb\ndrop 0xa\nworld\ndrop 0xa\nslot 0xb 1 1\ncode 9 0x", "line 11: error 161", "line 12: error 161", "line 13: error 161")
}

// looks is a script whose account B looks, with these lines behind, and a message that tells what it sees.
func looks(l ...string) string {
	return lines("account 0xb 0 1", "code 0xb "+row(looker())) + lines(l...) + "still 0xa 0xb 100000 0x"
}

// 19.3: at first there is no account, the block is all zero, and it has no hash.
func TestAtFirst(t *testing.T) {
	tells(t, "world\naudit 1\ncall 1 2 0 9 0x\nworld", "done left 9 back 0 steps 0")
	got := script.Run(looks())
	if want := "\n" + sees(map[int]string{sawSelf: atB, sawFrom: atA, sawOrigin: atA}) + "\n"; !strings.HasSuffix(got, want) {
		t.Error(apart(got, want))
	}
}

// 19.3: the words of `block` are these parts of it, in this order; its hashes stay, and come one behind the other.
func TestBlock(t *testing.T) {
	same := map[int]string{sawSelf: atB, sawFrom: atA, sawOrigin: atA}
	with := func(words map[int]string) string {
		all := map[int]string{}
		for _, l := range []map[int]string{same, words} {
			for i, x := range l {
				all[i] = x
			}
		}
		return "\n" + sees(all) + "\n"
	}
	one := map[int]string{sawNumber: "0x101", sawTime: "0x102", sawCoinbase: "0x103", sawRandom: "0x104", sawLimit: "0x105", sawChain: "0x106", sawBase: "0x107", sawBlobBase: "0x108"}
	blockOne := "block 257 258 259 260 261 262 263 264"
	hashed := func(words map[int]string, hashes ...string) map[int]string {
		all := map[int]string{}
		for i, x := range words {
			all[i] = x
		}
		for i, x := range hashes {
			all[sawHash1+i] = hash(x)
		}
		return all
	}
	most := map[int]string{sawNumber: "0x" + strings.Repeat("f", 16), sawTime: "0x" + strings.Repeat("f", 16), sawCoinbase: "0x" + strings.Repeat("f", 40), sawRandom: "0x" + strings.Repeat("f", 64), sawLimit: "0x" + strings.Repeat("f", 16), sawChain: "0x" + strings.Repeat("f", 64), sawBase: "0x" + strings.Repeat("f", 64), sawBlobBase: "0x" + strings.Repeat("f", 64)}
	var full []string
	for i := range api.MaxHashes {
		full = append(full, "hash "+hash(fmt.Sprintf("%02x", i)))
	}
	filled := hashed(one, "00", "01", "02")
	filled[sawHash256] = hash("ff")
	for i, x := range []struct {
		l    []string
		want map[int]string
	}{
		{[]string{blockOne}, one},
		{[]string{"block " + most64 + " " + most64 + " " + most160 + " " + most256 + " " + most64 + " " + most256 + " " + most256 + " " + most256}, most},
		{[]string{blockOne, "block 0 0 0 0 0 0 0 0"}, nil},
		{[]string{"hash " + hash("11"), blockOne}, hashed(one, "11")},
		{[]string{blockOne, "hash " + hash("11")}, hashed(one, "11")},
		{[]string{"hash " + hash("11"), blockOne, "hash " + hash("22"), "block 0 0 0 0 0 0 0 0", "hash " + hash("33"), blockOne}, hashed(one, "11", "22", "33")},
		{[]string{"hash " + hash("33"), "hash " + hash("11"), "hash " + hash("11"), "hash " + hash("44"), blockOne}, hashed(one, "33", "11", "11")},
		{append(full, blockOne), filled},
	} {
		got := script.Run(looks(x.l...))
		if want := with(x.want); !strings.HasSuffix(got, want) || strings.Contains(got, "error") {
			t.Errorf("block %d: %s", i, apart(got, want))
		}
	}
	got := script.Run(looks(append(full, blockOne, "hash "+hash("00"))...))
	if want := fmt.Sprintf("line %d: error 150\n", api.MaxHashes+5); got != want { // the line `hash` itself is taken
		t.Error(apart(got, want))
	}
}

// 19.3: `call` and `still` are messages with these parts; of all others a message has none.
func TestMessages(t *testing.T) {
	start := "account 0xb 0 1\ncode 0xb " + row(looker()) + "\naccount 0xd 0 1000\n"
	for _, x := range []struct {
		line string
		want map[int]string
	}{
		{"call 0xd 0xb 5 100000 0x0304", map[int]string{sawFrom: atD, sawOrigin: atD, sawValue: "0x5", sawSize: "0x2", sawInput: "0304" + strings.Repeat("0", 60)}},
		{"call 0xa 0xb 0 100000 0x", map[int]string{sawFrom: atA, sawOrigin: atA}},
		{"call 0xb 0xb 1 100000 0x" + strings.Repeat("77", 40), map[int]string{sawFrom: atB, sawOrigin: atB, sawValue: "0x1", sawSize: "0x28", sawInput: strings.Repeat("77", 32)}},
		{"still 0xd 0xb 100000 0x0304", map[int]string{sawFrom: atD, sawOrigin: atD, sawSize: "0x2", sawInput: "0304" + strings.Repeat("0", 60)}},
	} {
		x.want[sawSelf] = atB
		got := script.Run(start + x.line)
		if want := "\n" + sees(x.want) + "\n"; !strings.HasSuffix(got, want) {
			t.Errorf("%s: %s", x.line, apart(got, want))
		}
	}
	for gas, want := range map[string]string{"0": "done left 0 back 0 steps 0", "7": "done left 7 back 0 steps 0", "4294967295": "done left 4294967295 back 0 steps 0"} {
		tells(t, "call 1 2 0 "+gas+" 0x\nstill 1 2 "+gas+" 0x", want, want)
	}
}

// 19.3: the accounts behind `call`, `still` and `make` are those behind the message, and so on through them; a still one changes nothing.
func TestAccountsBehind(t *testing.T) {
	count := row(coded(raw("5f 54 6001 01 5f 55 00"))) // its slot 0 is one more
	text := lines("account 0xa 0 100", "account 0xb 0 1", "code 0xb "+count)
	var want []string
	for i := range 5 {
		text += "call 0xa 0xb 2 30000 0x\nstill 0xa 0xb 30000 0x\nworld\n"
		left := 30000 - 2 - 2100 - 3 - 3 - 2 - 100 - 2800 // the slot is warm when it is written
		if i == 0 {
			left += 2800 - 19900
		}
		want = append(want, fmt.Sprintf("done left %d back 0 steps 7", left), "halted 4 left 0 back 0 steps 6",
			fmt.Sprintf("account %s 0 %d", atA, 98-2*i), fmt.Sprintf("account %s 0 %d", atB, 3+2*i), "code "+atB+" "+count, fmt.Sprintf("slot %s 0x0 0x%d", atB, i+1))
	}
	tells(t, text, want...)
}

// 19.3: what is no account any more behind a message is none in the script.
func TestGoneBehind(t *testing.T) {
	tells(t, "account 0xa 0 7\ncall 0xa 0xb 7 0 0x\nworld\nslot 0xa 1 1\ncode 0xa 0x\ndrop 0xa\nworld",
		"done left 0 back 0 steps 0", "account "+atB+" 0 7", "line 4: error 161", "line 5: error 161", "line 6: error 161", "account "+atB+" 0 7")
	tells(t, "account 0xa 0 7\nstill 0xa 0xb 0 0x\nworld", "done left 0 back 0 steps 0", "account "+atA+" 0 7")
	clears := coded(store(1, 0), stop)
	tells(t, "account 0xb 0 7\ncode 0xb "+row(clears)+"\nslot 0xb 1 1\nslot 0xb 2 1\ncall 0xa 0xb 0 9999 0x\nworld",
		"done left 5995 back 1001 steps 4", "account "+atB+" 0 7", "code "+atB+" "+row(clears), "slot "+atB+" 0x2 0x1")
}

// 19.3: a message that makes an account has these parts; what is made, and its maker, are in the script behind it.
func TestMake(t *testing.T) {
	made := func(by api.Address, salt uint64) string { return whole(call.Made(by, n(salt))) }
	init := maker(store(0, 5), raw("5f 35 6001 55 34 6002 55")) // slots: 5, the first word of the input, the value
	stops := row(coded(stop))
	text := lines("account 0xa 4 100", "make 0xa 3 300000 9 "+row(init)+" 0x0304", "world",
		"make 0xa 0 300000 9 "+row(init)+" 0x", "make 0xa 1 300000 1 "+row(init)+" 0x", "world",
		"make 0xc 0 300000 0x12 "+row(maker())+" 0x", "world")
	one := []string{"account " + made(a, 9) + " 1 3", "code " + made(a, 9) + " " + stops, "slot " + made(a, 9) + " 0x0 0x5", "slot " + made(a, 9) + " 0x1 0x304" + strings.Repeat("0", 60), "slot " + made(a, 9) + " 0x2 0x3"}
	two := []string{"account " + made(a, 1) + " 1 1", "code " + made(a, 1) + " " + stops, "slot " + made(a, 1) + " 0x0 0x5", "slot " + made(a, 1) + " 0x2 0x1"}
	three := []string{"account " + made(c, 18) + " 1 0", "code " + made(c, 18) + " " + stops}
	tells(t, text, slices.Concat(
		[]string{"done left 229678 back 0 steps 13", "made " + made(a, 9), "account " + atA + " 5 97"}, one,
		[]string{"line 4: error 154", "done left 249578 back 0 steps 13", "made " + made(a, 1), "account " + atA + " 6 96"}, one, two,
		[]string{"done left 295996 back 0 steps 3", "made " + made(c, 18), "account " + atA + " 6 96", "account " + atC + " 1 0"}, three, one, two)...)
}

// 19.3, W2: both engines tell the same of every line, and the word behind `engine` holds for what follows.
func TestEngines(t *testing.T) {
	l := ready()
	l = l[:len(l)-1]
	for _, x := range table() {
		checked := behind(l, "engine checked", x.line, "world")
		fast := behind(l, "engine fast", x.line, "world")
		first := behind(l, "", x.line, "world")
		turned := behind(l, "engine fast", "engine checked", "engine fast", x.line, "world")
		if checked != fast || first != fast || turned != fast {
			t.Errorf("%s: by the checked machine %q, by the fast one %q, by none %q, turned %q", x.line, checked, fast, first, turned)
		}
	}
}

// 19.3: `trace` tells the first so many steps, as many as there are, and changes nothing.
func TestTrace(t *testing.T) {
	start := []string{"account 0xa 0 9", "account 0xb 1 0", "code 0xb " + row(coded(store(1, 2), raw("5f 50 00")))}
	steps := []string{"96 0 40000", "96 1 39997", "85 2 39994", "95 0 17894", "80 1 17892", "0 0 17890"}
	places := []int{0, 2, 4, 5, 6, 7}
	all := make([]string, len(steps))
	for i, x := range steps {
		all[i] = fmt.Sprintf("0 %s 0 %d %s", atB, places[i], x)
	}
	for _, engine := range []string{"engine checked", "engine fast"} {
		ahead := append(start, engine)
		for many := range 9 {
			want := lines(all[:min(many, len(all))]...) + behind(ahead, "", "world")
			if got := behind(ahead, fmt.Sprintf("trace %d 0xa 0xb 3 40000 0x", many), "world"); got != want {
				t.Errorf("%d steps: %s", many, apart(got, want))
			}
		}
		for _, many := range []string{"10000", "9999", "0x2710", "010000"} {
			want := lines(all...) + behind(ahead, "", "world")
			if got := behind(ahead, "trace "+many+" 0xa 0xb 3 40000 0x", "world"); got != want {
				t.Errorf("%s steps: %s", many, apart(got, want))
			}
		}
		if got := behind(ahead, "trace 9 0xa 0xc 3 40000 0x", "world"); got != behind(ahead, "", "world") {
			t.Errorf("no steps: %s", got)
		}
	}
}

// 19.3: of a run that goes on for longer the first so many steps are told, MaxLines at most; and the run is not gone through to its end.
func TestLongTrace(t *testing.T) {
	start := "account 0xb 0 1\ncode 0xb " + row(coded(again)) + "\n"
	for _, many := range []int{1, 2, 77, api.MaxLines} {
		var want strings.Builder
		for i := range many {
			fmt.Fprintf(&want, "0 %s 0 0 224 0 %d\n", atB, api.MaxGas-2*i)
		}
		holds(t, many, start+fmt.Sprintf("trace %d 0xa 0xb 0 %d 0x", many, uint64(api.MaxGas)), want.String())
	}
}

// 19.3: `judge` asks of the bytes as one of the two kinds, `print` of an open container.
func TestLooks(t *testing.T) {
	tells(t, "judge runtime "+row(coded(stop))+"\njudge init "+row(coded(stop))+"\njudge init "+row(maker())+"\njudge runtime "+row(maker())+"\njudge runtime "+row(coded(invalid))+"\njudge init "+row(coded(invalid)),
		"valid", "refused 80 section 0 at 0 path", "valid", "refused 80 section 0 at 2 path", "valid", "valid")
	open := coded(stop)
	open[13] = 5
	tells(t, "judge runtime "+row(open)+"\nprint "+row(open)+"\nprint "+row(append(open, 7, 8)),
		"refused 50 section 0 at 20 path", "| section 0 never 0", "| STOP", "| data 5", "| section 0 never 0", "| STOP", "| data 5 0x0708")
	tells(t, "print "+row(with(nest(coded(raw("0c 0c"))), raw("60"))),
		"| section 0 never 0", "| bytes 0x60", "| sub", "| section 0 never 0", "| bytes 0x0c", "| bytes 0x0c", "| data 0", "| end", "| data 0")
}

// 19.3: `audit` tells the same by each number of workers, of any accounts.
func TestAudit(t *testing.T) {
	start := lines("account 0xc 0 0", "code 0xc 0xef", "account 0xa 0 0", "account 0xb 1 1", "code 0xb "+row(coded(stop)), "account 0xd 0 0", "code 0xd "+row(coded(stop, stop)), "slot 0xa 1 1")
	for workers := range 20 {
		text := start + fmt.Sprintf("audit %d", workers)
		if workers < 1 || workers > api.MaxWorkers {
			tells(t, text, "line 9: error 180")
			continue
		}
		tells(t, text, atB+" valid", atC+" refused 50 section 0 at 1 path", atD+" refused 73 section 0 at 1 path")
		tells(t, fmt.Sprintf("account 1 1 1\naudit %d", workers))
	}
	for _, x := range []string{"4294967297", "4294967296", "2147483648", "9223372036854775807", "9223372036854775808", "9223372036854775809", most64, "0xffffffff00000001"} {
		tells(t, start+"audit "+x, "line 9: error 180")
	}
}
