package script_test

import (
	"bytes"
	"fmt"
	"slices"
	"strings"
	"testing"

	"vouch/api"
	"vouch/call"
)

// 19.5: accounts rise by their bytes, slots by their numbers, whatever the order of the lines was; addresses have all digits, numbers none ahead.
func TestWorld(t *testing.T) {
	l := []string{
		"account 0x0100000000000000000000000000000000000000 0 1", "account 255 0 2", "account 256 0 3", "account 0 0 4", "account " + most160 + " 0 5", "account 0x00ff00 0 6",
	}
	want := []string{
		"account 0x0000000000000000000000000000000000000000 0 4",
		"account 0x00000000000000000000000000000000000000ff 0 2",
		"account 0x0000000000000000000000000000000000000100 0 3",
		"account 0x000000000000000000000000000000000000ff00 0 6",
		"account 0x0100000000000000000000000000000000000000 0 1",
		"account 0xffffffffffffffffffffffffffffffffffffffff 0 5",
	}
	slots := []string{"slot 255 256 0x0100", "slot 255 0x10000000000000000 1", "slot 255 9 0xffff", "slot 255 " + most256 + " " + most256, "slot 255 0 0x0f", "slot 255 0xffffffffffffffff 16", "slot 255 0x100000000000000000000000000000000 18446744073709551616"}
	told := []string{" 0x0 0xf", " 0x9 0xffff", " 0x100 0x100", " 0xffffffffffffffff 0x10", " 0x10000000000000000 0x1", " 0x100000000000000000000000000000000 0x10000000000000000", " 0x" + strings.Repeat("f", 64) + " 0x" + strings.Repeat("f", 64)}
	for i := range told {
		told[i] = "slot 0x00000000000000000000000000000000000000ff" + told[i]
	}
	code := []string{"code 255 0x00", "code 0 0xef"}
	g := draw(190)
	for range 40 {
		g.Shuffle(len(l), func(i, j int) { l[i], l[j] = l[j], l[i] })
		behind := slices.Concat(slots, code)
		g.Shuffle(len(behind), func(i, j int) { behind[i], behind[j] = behind[j], behind[i] })
		tells(t, lines(l...)+lines(behind...)+"world", slices.Concat(
			want[:1], []string{"code 0x0000000000000000000000000000000000000000 0xef"},
			want[1:2], []string{"code 0x00000000000000000000000000000000000000ff 0x00"}, told, want[2:])...)
	}
}

// 19.5: each number as it is told: nonces and balances in decimal digits, keys and values as Hex.
func TestNumbersTold(t *testing.T) {
	for _, x := range []struct{ word, text, hex string }{
		{"9", "9", "0x9"}, {"0x0a", "10", "0xa"}, {"255", "255", "0xff"}, {"0x100", "256", "0x100"}, {"00099", "99", "0x63"}, {"0xABCDEF", "11259375", "0xabcdef"}, {most64, most64, "0xffffffffffffffff"},
	} {
		tells(t, "account 0xa "+x.word+" "+x.word+"\nslot 0xa "+x.word+" 1\nslot 0xa 0 "+x.word+"\nworld",
			"account "+atA+" "+x.text+" "+x.text, "slot "+atA+" 0x0 "+x.hex, "slot "+atA+" "+x.hex+" 0x1")
	}
	tells(t, "account 0xa 0x00 00\nworld", "account "+atA+" 0 0")
}

// way is a message, and how it goes: written out.
type way struct {
	name string
	l    []string // the accounts
	line string
	want []string
}

// to is B with a code, and A with the balance 50.
func to(code []byte) []string {
	return []string{"account 0xa 0 50", "account 0xb 0 9", "code 0xb " + row(code)}
}

// down are types of one section that is called and returns, having so many words more.
func down(most int) []api.Type { return []api.Type{{Most: most}} }

// ways are messages that end in each way.
func ways() []way {
	init := func(code ...[]byte) string {
		return "make 0xa 0 90000 0 " + row(with(nest(coded(stop)), code...)) + " 0x"
	}
	lacks := with(nest(open(4)), pushed(n(0), n(3)), raw("ee00")) // three bytes where four were declared
	made := "made " + whole(call.Made(a, n(0)))
	return []way{
		{"no code", nil, "call 0xa 0xb 0 5 0x01", []string{"done left 5 back 0 steps 0"}},
		{"no code, still", nil, "still 0xa 0xb 5 0x01", []string{"done left 5 back 0 steps 0"}},
		{"STOP", to(coded(stop)), "call 0xa 0xb 0 5 0x", []string{"done left 5 back 0 steps 1"}},
		{"RETURN of nothing", to(coded(raw("5f 5f f3"))), "call 0xa 0xb 0 5 0x", []string{"done left 1 back 0 steps 3"}},
		{"RETURN of one byte", to(coded(raw("6001 5f f3"))), "call 0xa 0xb 0 9 0x", []string{"done left 1 back 0 steps 3", "output 0x00"}},
		{"RETURN of many", to(coded(raw("6028 6007 5f 53 5f f3"))), "still 0xa 0xb 30 0x", []string{"done left 11 back 0 steps 6", "output 0x07" + strings.Repeat("00", 39)}},
		{"REVERT of nothing", to(coded(reverts)), "call 0xa 0xb 3 5 0x", []string{"reverted left 1 back 0 steps 3"}},
		{"REVERT of two bytes", to(coded(raw("6002 60ab 5f 53 5f fd"))), "call 0xa 0xb 3 30 0x", []string{"reverted left 14 back 0 steps 6", "output 0xab00"}},
		{"no gas", to(coded(raw("5f 50 00"))), "call 0xa 0xb 3 1 0x", []string{"halted 1 left 0 back 0 steps 1"}},
		{"no gas for the second", to(coded(raw("5f 50 00"))), "still 0xa 0xb 3 0x", []string{"halted 1 left 0 back 0 steps 2"}},
		{"no room", to(fitted(down(2), nil, nil, raw("e30001 00"), raw("5f5f e30001 5050 e4"))), "call 0xa 0xb 0 9000 0x", []string{"halted 2 left 0 back 0 steps 1537"}},
		{"no place to return to", to(fitted(down(0), nil, nil, raw("e30001 00"), raw("e30001 e4"))), "call 0xa 0xb 0 9000 0x", []string{"halted 3 left 0 back 0 steps 1025"}},
		{"a change", to(coded(store(1, 2), stop)), "still 0xa 0xb 90000 0x", []string{"halted 4 left 0 back 0 steps 3"}},
		{"no address", to(coded(raw("5f 19 31 50 00"))), "call 0xa 0xb 0 9000 0x", []string{"halted 5 left 0 back 0 steps 3"}},
		{"no code that may be", nil, "make 0xa 0 90000 0 " + row(lacks) + " 0x", []string{"halted 6 left 0 back 0 steps 3"}},
		{"INVALID", to(coded(invalid)), "call 0xa 0xb 5 9000 0x", []string{"halted 7 left 0 back 0 steps 1"}},
		{"slots are cleared", append(to(coded(store(1, 0), store(2, 0), stop)), "slot 0xb 1 1", "slot 0xb 2 1"), "call 0xa 0xb 0 20000 0x", []string{"done left 11992 back 2002 steps 7"}},
		{"cleared, and taken back", append(to(coded(store(1, 0), reverts)), "slot 0xb 1 1"), "call 0xa 0xb 0 20000 0x", []string{"reverted left 14991 back 0 steps 6"}},
		{"made", nil, init(deploys), []string{"done left 85996 back 0 steps 3", made}},
		{"made, having returned data", nil, init(pushed(wordOf(b), n(0), n(0)), raw("fb 50"), deploys), []string{"done left 83387 back 0 steps 8", made}},
		{"halted as it is made", nil, init(raw("5f e10001 fe"), deploys), []string{"halted 7 left 0 back 0 steps 3"}},
	}
}

// open is a container with data so long, of which none are at hand.
func open(size int) []byte {
	b := coded(stop)
	b[13] = byte(size)
	return b
}

// 19.6: how a message went, in each way in which it can end, by either engine.
func TestWays(t *testing.T) {
	for _, x := range ways() {
		for _, engine := range []string{"engine checked", "engine fast"} {
			if got := behind(append(x.l, engine), x.line); got != lines(x.want...) {
				t.Errorf("%s, %s: %s", x.name, engine, apart(got, lines(x.want...)))
			}
		}
	}
}

// 19.6: a message that makes an account and is taken back tells its output and nothing that was made.
func TestNotMade(t *testing.T) {
	init := with(nest(coded(stop)), raw("36 e10008"), raw("6003 60cd 5f 53 5f fd"), deploys)
	for _, engine := range []string{"engine checked\n", "engine fast\n"} {
		text := engine + "account 0xa 7 50\nmake 0xa 5 90000 0 " + row(init) + " 0x\nworld\nmake 0xa 5 90000 0 " + row(init) + " 0x01\nworld"
		made := whole(call.Made(a, n(0)))
		tells(t, text, "reverted left 89978 back 0 steps 8", "output 0xcd0000", "account "+atA+" 8 50",
			"done left 85990 back 0 steps 5", "made "+made, "account "+atA+" 9 45", "account "+made+" 1 5", "code "+made+" "+row(coded(stop)))
	}
}

// 19.6: logs are told in order, with their data and topics; none of what was taken back.
func TestLogs(t *testing.T) {
	var code []byte
	var want []string
	for topics := range 5 {
		words := []api.Word{n(30), n(uint64(topics))} // the last bytes of the first word, and the first ones of the next
		told := "log " + atB + " " + row([]byte{7, 8, 0, 0}[:topics])
		for i := range topics {
			x := []api.Word{n(0), n(255), {1, 0, 0, 1}, {^uint64(0), ^uint64(0), ^uint64(0), ^uint64(0)}}[i]
			words = append(words, x)
			told += " " + []string{"0x0", "0xff", "0x1" + strings.Repeat("0", 47) + "1", "0x" + strings.Repeat("f", 64)}[i]
		}
		code = join(code, pushed(words...), []byte{0xa0 + byte(topics)})
		want = append(want, told)
	}
	mark := raw("610708 5f 52") // the word 0x0708
	quiet := coded(pushed(n(0), n(0), n(9)), raw("a1"), reverts)
	other := coded(pushed(n(0), n(0), n(9)), raw("a1"), stop)
	l := append(to(coded(mark, calls(c, 0), drop, code, calls(d, 0), drop, stop)), "account 0xc 0 1", "code 0xc "+row(other), "account 0xd 0 1", "code 0xd "+row(quiet))
	want = slices.Concat([]string{"log " + atC + " 0x 0x9"}, want)
	for _, engine := range []string{"engine checked", "engine fast"} {
		got := behind(append(l, engine), "call 0xa 0xb 0 99999 0x")
		if first, rest, _ := strings.Cut(got, "\n"); !strings.HasPrefix(first, "done left ") || rest != lines(want...) {
			t.Errorf("%s: %s\n%s", engine, first, apart(rest, lines(want...)))
		}
	}
	output := coded(mark, pushed(n(30), n(2)), raw("a0"), pushed(n(31), n(1)), raw("f3"))
	got := behind(to(output), "call 0xa 0xb 0 9999 0x")
	if want := lines("done left 9585 back 0 steps 9", "output 0x08", "log "+atB+" 0x0708"); got != want { // what is returned ahead of the logs
		t.Error(apart(got, want))
	}
}

// 19.6: what an account that is made tells stands behind its address.
func TestLogsOfMade(t *testing.T) {
	made := whole(call.Made(a, n(0)))
	init := with(nest(coded(stop)), pushed(n(0), n(0)), raw("a0"), deploys)
	tells(t, "account 0xa 0 1\nmake 0xa 0 90000 0 "+row(init)+" 0x", "done left 85617 back 0 steps 6", "made "+made, "log "+made+" 0x")
}

// 19.7: the parts of a step: depth, address, section, place, code, height, gas.
func TestSteps(t *testing.T) {
	code := fitted(down(1), nil, nil, join(calls(c, 0), raw("e30001 50 00")), raw("5b 5f 50 e4"))
	l := append(to(code), "account 0xc 0 1", "code 0xc "+row(coded(raw("6007 50 00"))))
	want := []string{
		"0 " + atB + " 0 0 95 0 20000", // PUSH0: the value
		"0 " + atB + " 0 1 95 1 19998",
		"0 " + atB + " 0 2 95 2 19996",
		"0 " + atB + " 0 3 96 3 19994",
		"0 " + atB + " 0 5 248 4 19991",
		"1 " + atC + " 0 0 96 0 12391", // 19991 less 100 and 2500 and 5000
		"1 " + atC + " 0 2 80 1 12388",
		"1 " + atC + " 0 3 0 0 12386",
		"0 " + atB + " 0 6 227 1 17386",
		"0 " + atB + " 1 0 91 1 17381",
		"0 " + atB + " 1 1 95 1 17380",
		"0 " + atB + " 1 2 80 2 17378",
		"0 " + atB + " 1 3 228 1 17376",
		"0 " + atB + " 0 9 80 1 17373",
		"0 " + atB + " 0 10 0 0 17371",
	}
	for i := range len(want) + 3 {
		if got := behind(l, fmt.Sprintf("trace %d 0xa 0xb 0 20000 0x", i)); got != lines(want[:min(i, len(want))]...) {
			t.Errorf("%d steps: %s", i, apart(got, lines(want[:min(i, len(want))]...)))
		}
	}
	if got := behind(l, "call 0xa 0xb 0 20000 0x"); got != "done left 17371 back 0 steps 15\n" {
		t.Error(got)
	}
}

// makes is a container for both kinds that names each of these, to make accounts with them; lays one to make accounts with that names each, to lay them.
func makes(subs ...[]byte) []byte {
	var code []byte
	for i := range subs {
		code = append(code, 0x5f, 0x5f, 0x5f, 0x5f, 0xec, byte(i), 0x50)
	}
	return with(subs, code, invalid)
}

func lays(subs ...[]byte) []byte {
	var code []byte
	for i := range subs {
		code = append(code, 0x5f, 0xe1, 0, 4, 0x5f, 0x5f, 0xee, byte(i))
	}
	return with(subs, code, invalid)
}

// judged are containers, and what is told of them as Runtime and as Init: written out.
type judged struct {
	b             []byte
	runtime, init string
}

func containers() []judged {
	fine, both := coded(invalid), with(nest(coded(invalid)), raw("5f 5f 5f 5f ec 00 5f ee 00"))
	no := func(code, section, at int, path string) string {
		return strings.TrimSpace(fmt.Sprintf("refused %d section %d at %d path %s", code, section, at, path))
	}
	same := func(b []byte, told string) judged { return judged{b, told, told} }
	deep := fine[:len(fine)-1]
	for range 20 {
		deep = makes(fine, deep)
	}
	return []judged{
		same(fine, "valid"), same(makes(fine, fine), "valid"), same(makes(lays(fine)), "valid"),
		{coded(stop), "valid", no(80, 0, 0, "")},
		{lays(fine), no(80, 0, 6, ""), "valid"},
		{coded(raw("5f 5f f3")), "valid", no(80, 0, 2, "")},
		same(nil, no(50, 0, 0, "")), same(raw("ee"), no(51, 0, 0, "")), same(raw("ef0001 03"), no(53, 0, 3, "")), same(append(bytes.Clone(fine), 0), no(58, 0, 20, "")), same(open(7), no(50, 0, 20, "")),
		same(coded(raw("5b 5b 0c fe")), no(60, 0, 2, "")),
		same(coded(raw("5b fe 60")), no(61, 0, 2, "")),
		same(fitted(down(0), nil, nil, raw("e30001 fe"), raw("5b 5b e0fff0")), no(63, 1, 2, "")),
		same(fitted([]api.Type{{}, {}, {}}, nil, nil, raw("e30002 fe"), raw("e4"), raw("e4"), raw("e4")), no(87, 1, 0, "")),
		same(with(nest(fine, fine, fine), raw("5f 5f 5f 5f ec 00 fe")), no(88, 0, 0, "1")),
		same(makes(both), no(89, 0, 0, "0 0")),
		same(makes(fine, makes(fine, fine, both)), no(89, 0, 0, "1 2 0")),
		same(makes(fine, coded(raw("5b 5f 5f f3"))), no(80, 0, 3, "1")),
		same(makes(lays(append(bytes.Clone(fine), 1))), no(58, 0, 20, "0 0")),
		same(makes(fine, fine, lays(fine, lays(fine))), no(80, 0, 6, "2 1")),
		same(deep, no(50, 0, 19, strings.TrimSpace(strings.Repeat("1 ", 20)))),
	}
}

// 19.8: refusals, with a path and without, of `judge` and of `audit`; and what is valid.
func TestRefusals(t *testing.T) {
	var text, accounts strings.Builder
	var want, audited []string
	for i, x := range containers() {
		fmt.Fprintf(&text, "judge runtime %s\njudge init %s\n", row(x.b), row(x.b))
		want = append(want, x.runtime, x.init)
		fmt.Fprintf(&accounts, "account %d 0 0\ncode %d %s\n", 1000+i, 1000+i, row(x.b))
		if len(x.b) > 0 {
			audited = append(audited, whole(addr(1000+i))+" "+x.runtime)
		}
	}
	tells(t, text.String(), want...)
	for _, workers := range []int{1, 2, 3, 16} {
		tells(t, accounts.String()+fmt.Sprintf("audit %d", workers), audited...)
	}
}
