package script_test

import (
	"runtime"
	"strings"
	"sync"
	"testing"
	"time"

	"vouch/api"
	"vouch/script"
)

// anything is a text of pieces that stand in scripts, or of any bytes.
func (g drawing) anything() string {
	pieces := []string{"account", "code", "slot", "drop", "block", "hash", "engine", "world", "call", "still", "make", "trace", "judge", "print", "audit", "checked", "fast", "runtime", "init", "0xa", "0xb", "0xc", "0", "1", "5", "100", "0x", "0x00", row(coded(stop)), row(maker()), most64, most256, hash("ab"), "#", "frob", "\t", "\r", "\x00", "\xff", "é"}
	parts := []string{" ", " ", " ", " ", "\n", "\n", "", "  ", " 0 ", " 0xa "}
	var out strings.Builder
	if g.IntN(8) == 0 {
		return string(g.bytes(g.IntN(300)))
	}
	for range g.IntN(120) {
		out.WriteString(pick(g, pieces...) + pick(g, parts...))
	}
	return out.String()
}

// turned is a text of which some bytes are others, gone, or there twice.
func (g drawing) turned(text string) string {
	b := []byte(text)
	for range 1 + g.IntN(6) {
		if len(b) == 0 {
			break
		}
		i := g.IntN(len(b))
		switch g.IntN(4) {
		case 0:
			b = append(b[:i], b[i+1:]...)
		case 1:
			b = append(b[:i], append([]byte{pick(g, ' ', '\n', '0', 'x', '#', byte(g.Uint32()))}, b[i:]...)...)
		case 2:
			b = b[:i]
		default:
			b[i] = pick(g, ' ', '\n', 'f', '9', byte(g.Uint32()))
		}
	}
	return string(b)
}

// R1, 19.1 to 19.4: whatever the text is, Run ends, does not panic, and tells what the model tells.
func TestAnyText(t *testing.T) {
	g := draw(196)
	for i := range 1500 {
		text := g.anything()
		if i%10 == 0 {
			text = g.turned(strings.Join(g.script(6), "\n"))
		}
		if want, _ := runModel(text); script.Run(text) != want {
			t.Fatalf("text %d, %q: %s", i, short(text), apart(script.Run(text), want))
		}
	}
}

// R1: texts at their greatest: of one word, of many, of many lines, of bytes that are no text.
func TestGreatTexts(t *testing.T) {
	for _, piece := range []string{"\x00", "\xff", "0", "0x", "account 0xa 0 7 ", "\n", " \n", "#", "world\n", "account 0xa 0 7\nworld\n", "é", "\xe9 "} {
		for _, size := range []int{api.MaxText - 1, api.MaxText, api.MaxText + 1} {
			text := strings.Repeat(piece, size/len(piece)+1)[:size]
			if want, _ := runModel(text); script.Run(text) != want {
				t.Errorf("%q, %d bytes: %s", piece, size, apart(script.Run(text), want))
			}
		}
	}
	print := "print 0x" + strings.Repeat("00", (api.MaxText-8)/2)
	holds(t, "a long container", print, "line 1: error 51\n")
}

// R4: the same text tells the same again, one run behind the other and many beside each other; runs have nothing in common.
func TestSameAgain(t *testing.T) {
	g := draw(197)
	var texts, told []string
	for range 12 {
		text := lines(g.script(12)...) + "audit 7\nworld\n"
		texts, told = append(texts, text), append(told, script.Run(text))
	}
	for i, text := range texts {
		holds(t, i, text, told[i])
	}
	var all sync.WaitGroup
	for worker := range 8 {
		all.Add(1)
		go func() {
			defer all.Done()
			for i := range texts {
				i = (i*(2*worker+1) + worker) % len(texts)
				if got := script.Run(texts[i]); got != told[i] {
					t.Errorf("script %d beside others: %s", i, apart(got, told[i]))
				}
			}
		}()
	}
	all.Wait()
}

// R4: nothing of a script still goes on behind it; a trace that is not told to its end neither.
func TestNothingGoesOn(t *testing.T) {
	were := runtime.NumGoroutine()
	text := lines(account(at(b, 1, coded(again)))...) + strings.Repeat("trace 3 0xa 0xb 0 4294967295 0x\naudit 16\ntrace 0 0xa 0xb 0 4294967295 0x\n", 50)
	for range 20 {
		script.Run(text)
	}
	for range 2000 {
		if runtime.NumGoroutine() <= were {
			return
		}
		time.Sleep(time.Millisecond)
	}
	t.Errorf("%d goroutines, not %d", runtime.NumGoroutine(), were)
}
