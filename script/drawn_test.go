package script_test

import (
	"fmt"
	"slices"
	"strings"
	"testing"

	"vouch/api"
	"vouch/script"
	"vouch/word"
)

// number is a word, written in some way.
func (g drawing) number(x api.Word) string {
	text := word.Text(x)
	switch g.IntN(6) {
	case 0:
		return fmt.Sprintf("0x%064x", plain(x))
	case 1:
		return fmt.Sprintf("0x%0*X", 1+g.IntN(64), plain(x))
	case 2:
		return strings.Repeat("0", g.IntN(79-len(text))) + text
	case 3:
		return text
	}
	return word.Hex(x)
}

func (g drawing) small(x uint64) string { return g.number(n(x)) }

// somebody is an address, mostly a known one with code.
func (g drawing) somebody() string {
	return g.number(wordOf(pick(g, b, b, c, d, a, e, addr(99), pick(g, known...))))
}

// sends is a message as a line.
func (g drawing) sends() string {
	_, m := g.message()
	m.Gas = pick(g, m.Gas, m.Gas, min(m.Gas, 100000), uint64(g.IntN(5000)))
	if g.IntN(40) == 0 {
		m.Gas, m.Value = pick(g, api.MaxGas+1, m.Gas, 1<<63), pick(g, word.Not(n(0)), n(100000))
	}
	from, to, value, gas, input := g.number(wordOf(m.From)), g.number(wordOf(m.To)), g.number(m.Value), g.small(m.Gas), row(m.Input)
	switch {
	case m.Make:
		if g.IntN(12) == 0 {
			m.Init = g.code()
		}
		return strings.Join([]string{"make", from, value, gas, g.number(m.Salt), row(m.Init), input}, " ")
	case m.Still:
		return strings.Join([]string{"still", from, to, gas, input}, " ")
	case g.IntN(4) == 0:
		many := pick(g, uint64(g.IntN(4)), uint64(g.IntN(200)), 10000, 10001, g.Uint64())
		return strings.Join([]string{"trace", g.small(many), from, to, value, gas, input}, " ")
	}
	return strings.Join([]string{"call", from, to, value, gas, input}, " ")
}

// spoilt is code of which a few bytes are turned, left out or put in.
func (g drawing) spoilt(code []byte) []byte {
	code = slices.Clone(code)
	for range 1 + g.IntN(2) {
		if len(code) == 0 {
			break
		}
		i := g.IntN(len(code))
		switch g.IntN(5) {
		case 0:
			code = slices.Delete(code, i, i+1)
		case 1:
			code = slices.Insert(code, i, byte(g.Uint32()))
		case 2:
			code = code[:i]
		default:
			code[i] ^= 1 << g.IntN(8)
		}
	}
	return code
}

// code is any: none, valid as either kind, spoilt, or no container at all.
func (g drawing) code() []byte {
	switch g.IntN(8) {
	case 0:
		return nil
	case 1:
		return g.bytes(g.IntN(40))
	case 2:
		return g.container(api.Init, 1, false, b, c)
	case 3, 4:
		return g.spoilt(g.container(api.Runtime, 1+g.IntN(2), false, b, c, d))
	}
	return g.container(api.Runtime, 1+g.IntN(2), false, b, c, d)
}

// turns is a line that turns something of the accounts; mostly they stay a world.
func (g drawing) turns() string {
	who := g.number(wordOf(pick(g, b, c, d)))
	switch g.IntN(9) {
	case 0, 1:
		return fmt.Sprintf("slot %s %s %s", who, g.small(uint64(g.IntN(5))), g.number(pick(g, n(0), n(1), n(2), word.Not(n(0)))))
	case 2:
		return fmt.Sprintf("code %s %s", who, row(g.container(api.Runtime, 1, false, b, c, d)))
	case 3:
		return fmt.Sprintf("account %s %s %s", g.somebody(), g.small(pick(g, 0, 7, g.Uint64(), 1<<64-1)), g.small(uint64(1+g.IntN(9))))
	case 4:
		return "drop " + g.somebody()
	case 5:
		return pick(g, "account "+g.somebody()+" 0 0", "code "+g.somebody()+" "+row(g.code()), "slot "+g.somebody()+" 1 1", "account "+g.somebody()+" 1 "+most256)
	case 6:
		return pick(g, "engine fast", "engine checked")
	case 7:
		return "hash " + row(g.bytes(32))
	}
	return fmt.Sprintf("block %s %s %s %s %s %s %s %s", g.small(uint64(g.IntN(5))), g.small(g.Uint64()), g.somebody(), g.small(1), g.small(g.Uint64()), g.small(2), g.number(word.Not(n(0))), g.small(3))
}

// asks is a line that only tells something.
func (g drawing) asks() string {
	switch g.IntN(5) {
	case 0:
		return pick(g, "judge runtime ", "judge init ") + row(g.code())
	case 1:
		return "print " + row(pick(g, g.code(), g.container(api.Runtime, 1, true, b)))
	case 2:
		return "audit " + g.small(pick(g, 0, uint64(1+g.IntN(16)), uint64(1+g.IntN(16)), 17, g.Uint64()))
	}
	return "world"
}

// broken is a line of which a word is missing, stands twice, is another one or changes places.
func (g drawing) broken(line string) string {
	words := strings.Fields(line)
	i := g.IntN(len(words))
	switch g.IntN(6) {
	case 0:
		words = slices.Delete(words, i, i+1)
	case 1:
		words = slices.Insert(words, i, words[i])
	case 2:
		j := g.IntN(len(words))
		words[i], words[j] = words[j], words[i]
	case 3:
		words[i] = pick(g, "0x", "0", "-1", most256, "0x0", "0X1", "#", "fast", "init", "0xABCDEF", "world", "\t", "0x"+strings.Repeat("1", 64), strings.ToUpper(words[i]))
	case 4:
		words[i] += pick(g, "0", "f", "g", "x", "\r", "#", "\x00")
	default:
		words[i] = words[i][:g.IntN(len(words[i]))]
	}
	return strings.Join(words, " ")
}

// line is any line.
func (g drawing) line() string {
	var line string
	switch way := g.IntN(20); {
	case way < 9:
		line = g.sends()
	case way < 14:
		line = g.turns()
	case way < 18:
		line = g.asks()
	default:
		return pick(g, "", " ", "# frob", "#", "frob", "   #   x")
	}
	if g.IntN(6) == 0 {
		line = g.broken(line)
	}
	return line
}

// blanks lays more blanks between a line's words, and around them.
func (g drawing) blanks(line string) string {
	if g.IntN(3) > 0 {
		return line
	}
	var out strings.Builder
	for _, w := range strings.Split(line, " ") {
		out.WriteString(strings.Repeat(" ", g.IntN(4)))
		out.WriteString(w + " ")
	}
	return out.String()
}

// world0 are the lines of a drawn world, in some order in which they may stand.
func (g drawing) world0() []string {
	l := g.world()
	g.Shuffle(len(l), func(i, j int) { l[i], l[j] = l[j], l[i] })
	var first, then []string
	for _, x := range l {
		lines := account(x)
		first, then = append(first, lines[0]), append(then, lines[1:]...)
	}
	g.Shuffle(len(then), func(i, j int) { then[i], then[j] = then[j], then[i] })
	return append(first, then...)
}

// script is a world, and so many lines behind it.
func (g drawing) script(many int) []string {
	l := g.world0()
	for range many {
		l = append(l, g.blanks(g.line()))
	}
	return l
}

// 19.1 to 19.8, W15, R4: drawn scripts tell what the model tells.
func TestDrawnScripts(t *testing.T) {
	g := draw(191)
	met := map[string]int{}
	for i := range 250 {
		text := strings.Join(g.script(20), "\n") + pick(g, "", "\n", "\nworld\n", "\n \n")
		want, all := runModel(text)
		for x, many := range all {
			met[x] += many
		}
		if got := script.Run(text); got != want {
			t.Fatalf("script %d: %s\n%s", i, apart(got, want), short(text))
		}
	}
	for first := range kindsOf {
		if met[first+" 0"] < 10 || met[first+" 190"] < 5 && first != "world" {
			t.Errorf("%s: %d done, %d that were none", first, met[first+" 0"], met[first+" 190"])
		}
	}
	for _, x := range []string{"code 161", "slot 161", "drop 161", "trace 2", "audit 180", "print 51", "call 1", "call 151", "call 111", "call 112", "call 113", "still 113", "make 113", "make 153", "make 154", "trace 151", "done", "reverted", "halted 1", "halted 4", "halted 7", "output", "made", "log 0", "log 1", "log 2", "depth 0", "depth 1", "depth 2"} {
		if met[x] == 0 {
			t.Errorf("nothing met %q: %v", x, met)
		}
	}
	t.Log(met)
}

// W2, 19.3: drawn scripts tell the same by either engine.
func TestDrawnEngines(t *testing.T) {
	g := draw(198)
	for i := range 60 {
		l := slices.DeleteFunc(g.script(12), func(line string) bool { return strings.Contains(line, "engine") })
		checked, fast := behind([]string{"engine checked"}, lines(l...)+"world"), behind([]string{"engine fast"}, lines(l...)+"world")
		if checked != fast {
			t.Fatalf("script %d: %s\n%s", i, apart(fast, checked), lines(l...))
		}
	}
}
