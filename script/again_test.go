package script_test

import (
	"fmt"
	"strings"
	"testing"

	"vouch/api"
	"vouch/script"
)

// 19.9: what `world` tells of drawn scripts, run with a line `world` behind it, tells the same.
func TestWorldAgain(t *testing.T) {
	g := draw(192)
	most := 0
	for i := range 150 {
		told := behind(g.script(12), "world")
		for _, end := range []string{"world", "world\n", "  world ", "engine fast\nworld", "# x\n\nworld"} {
			holds(t, i, told+end, told)
		}
		most = max(most, strings.Count(told, "\n"))
	}
	if most < 20 {
		t.Errorf("the longest world has %d lines", most)
	}
}

// 19.9: of lists in which all stands that an account can have, right or not, written in other orders and forms.
func TestOddWorldsAgain(t *testing.T) {
	for _, x := range []string{
		"", "account 0 0 0", "account " + most160 + " " + most64 + " " + most256,
		"account 1 0 0\nslot 1 0 1\nslot 1 " + most256 + " " + most256, "account 1 0 0\ncode 1 0x00", "account 1 0 0\ncode 1 0x",
		"account 3 1 1\naccount 2 1 1\naccount 1 1 1\nslot 2 9 9\nslot 2 8 8\nslot 2 7 0\ncode 2 0xff\ncode 1 0xef",
		"account 1 2 3\nslot 1 2 3\ndrop 1", "account 1 2 3\nslot 1 2 3\ndrop 1\naccount 1 4 5",
	} {
		told := script.Run(x + "\nworld")
		holds(t, x, told+"world", told)
		twice := script.Run(x + "\nworld\nworld")
		if twice != told+told {
			t.Errorf("%q: told twice: %s", x, apart(twice, told+told))
		}
	}
}

// 19.9, 19.1: as many accounts and slots as lines leave room for; a world of more lines is told, and is too long to be run again.
func TestGreatWorldsAgain(t *testing.T) {
	var accounts, slots strings.Builder
	slots.WriteString("account 5 0 1\n")
	for i := range api.MaxLines - 1 {
		fmt.Fprintf(&accounts, "account %d %d 1\n", (i*7919)%api.MaxLines, i)
		if i < api.MaxLines-2 {
			fmt.Fprintf(&slots, "slot 5 %d %d\n", (i*7919)%api.MaxLines, i+1)
		}
	}
	for name, text := range map[string]string{"accounts": accounts.String(), "slots": slots.String()} {
		told := script.Run(text + "world")
		if strings.Count(told, "\n") != api.MaxLines-1 || strings.Contains(told, "error") {
			t.Fatalf("%s: %d lines are told", name, strings.Count(told, "\n"))
		}
		holds(t, name, told+"world", told)
		holds(t, name, told+"world\n#\n", tooMany)
	}
	code := "code 1 0x" + strings.Repeat("ab", 200000) + "\n"
	var many strings.Builder
	many.WriteString("account 1 0 1\n" + code)
	told := script.Run(many.String() + "world")
	holds(t, "long code", told+"world", told)
	made := script.Run("account 1 0 1\n" + code + "account 2 0 1\n" + strings.Replace(code, " 1 ", " 2 ", 1) + "world")
	holds(t, "two long codes", made+"world", made)
}

// 19.10: a script cut at any line tells what it told, and then more.
func TestCutAnywhere(t *testing.T) {
	g := draw(193)
	for i := range 25 {
		l := g.script(10)
		whole := script.Run(lines(l...))
		last := ""
		for k := range len(l) + 1 {
			now := script.Run(lines(l[:k]...))
			if !strings.HasPrefix(whole, now) || !strings.HasPrefix(now, last) {
				t.Fatalf("script %d, %d lines: %s\n%s", i, k, apart(now, whole), lines(l...))
			}
			if bare := script.Run(strings.Join(l[:k], "\n")); bare != now {
				t.Fatalf("script %d, %d lines, not ended: %s", i, k, apart(bare, now))
			}
			last = now
		}
		if last != whole {
			t.Fatalf("script %d: %s", i, apart(last, whole))
		}
	}
}

// 19.10: a script with another one behind it tells what it tells alone, and then what the lines tell that stand behind these.
func TestTwoScripts(t *testing.T) {
	g := draw(194)
	for i := range 60 {
		x, y := lines(g.script(6)...), strings.Join(g.script(6), "\n")
		one, both := script.Run(x), script.Run(x+y)
		if !strings.HasPrefix(both, one) {
			t.Fatalf("script %d: %s", i, apart(both, one))
		}
		if want, _ := runModel(x + y); both != want {
			t.Fatalf("script %d: %s", i, apart(both, want))
		}
	}
	holds(t, "not ended", "account 0xa 0 7\nworld"+"\nworld", oneTells+oneTells)
	holds(t, "the last line goes on", "account 0xa 0 7\nworld"+"world\n", "line 2: error 190\n")
}

// 19.10, 19.4, W15: a line that is refused, laid in anywhere, changes nothing but the numbers of the lines behind it.
func TestRefusedLaidIn(t *testing.T) {
	g := draw(195)
	refused := []string{"frob", "account 0xa 0", "code 0xffff 0x", "slot 0xffff 1 1", "drop 0xffff", "block 1 2 3 4 5 6 7", "hash 0x", "engine slow", "world 1", "call 0xa 0xb 0 4294967296 0x", "still 0xa 0xb 4294967296 0x", "make 0xa 0 4294967296 0 0x 0x", "trace 10001 0xa 0xb 0 1 0x", "judge both 0x", "print 0x", "audit 0"}
	for i := range 40 {
		l := g.script(8)
		at := g.IntN(len(l) + 1)
		told := script.Run(lines(l[:at]...))
		rest := strings.TrimPrefix(script.Run(lines(l[:at]...)+"\n"+lines(l[at:]...)), told)
		line := refused[i%len(refused)]
		all := strings.TrimPrefix(script.Run(lines(l[:at]...)+line+"\n"+lines(l[at:]...)), told)
		first, behind, _ := strings.Cut(all, "\n")
		if !strings.HasPrefix(first, fmt.Sprintf("line %d: error ", at+1)) || behind != rest {
			t.Fatalf("script %d, %s: %s, %s", i, line, first, apart(behind, rest))
		}
	}
}
