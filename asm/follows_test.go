package asm_test

import (
	"fmt"
	"strings"
	"testing"

	"vouch/api"
	"vouch/asm"
)

// counts is how often what was met.
type counts map[string]int

// enough: each of these was met so often.
func (x counts) enough(t testing.TB, least int, what ...string) {
	t.Helper()
	for _, name := range what {
		if x[name] < least {
			t.Errorf("%s: only %d", name, x[name])
		}
	}
	t.Log(x)
}

// 16.3, 16.4, W11: of drawn containers Print writes what the model does, and Parse reads it as the container.
func TestDrawnContainers(t *testing.T) {
	d := draw(163)
	met := counts{}
	for range 4000 {
		c := d.container(3)
		if !may(c) {
			t.Fatal("a container that may not be is drawn")
		}
		text, wrong := modelPrint(c)
		if wrong != api.OK {
			t.Fatal("too long a text is drawn")
		}
		wantPrinted(t, c, text)
		for _, what := range []string{"\nbytes 0x", "\nsub\n", "\nsub 0x", "\nend\n", "@-", "never", "RJUMPV", "PUSH32", "EXCHANGE", "end\nend", "sub 0xef0001"} {
			if strings.Contains(text, what) {
				met[what]++
			}
		}
	}
	met.enough(t, 50, "\nbytes 0x", "\nsub\n", "\nsub 0x", "\nend\n", "@-", "never", "RJUMPV", "PUSH32", "EXCHANGE", "sub 0xef0001")
}

// readAsModel holds Parse against the model; where it reads a container, Print of it against both (16.4).
func readAsModel(t *testing.T, text string, met counts) {
	t.Helper()
	want, wrong, at := modelParse(text)
	met[fmt.Sprint(int(wrong))]++
	if wrong != api.OK {
		wantRefused(t, text, wrong, at)
		return
	}
	wantRead(t, text, want)
	again, wrong := modelPrint(want)
	if wrong != api.OK {
		wantUnprinted(t, want, wrong)
		return
	}
	wantPrinted(t, want, again)
	c, _, _ := asm.Parse(again)
	wantPrinted(t, c, again)
}

// 16.1, 16.2, 16.4: drawn texts, whole and spoiled, are read as the model reads them; what is read has one text.
func TestDrawnTexts(t *testing.T) {
	d := draw(164)
	met := counts{}
	for range 12000 {
		lines := d.text(2)
		if d.one(2) {
			for range 1 + d.IntN(3) {
				lines = d.spoiled(lines)
			}
		}
		text := plain(lines)
		if d.one(2) {
			text = d.dressed(lines)
		}
		for d.one(5) {
			text = d.turned(text)
		}
		readAsModel(t, text, met)
	}
	met.enough(t, 2000, "0", "160")
	met.enough(t, 100, "1", "161")
	met.enough(t, 10, "56", "59")
}

// 16.5: blanks, comments, lines without words and what labels are called change nothing of the container.
func TestNothingChanges(t *testing.T) {
	d := draw(165)
	read := 0
	for range 3000 {
		lines := d.text(2)
		c, wrong, at := asm.Parse(plain(lines))
		if wrong != api.OK {
			if wrong != api.ErrArg {
				t.Fatalf("%v at %d of %q", wrong, at, plain(lines))
			}
			continue // a distance too far
		}
		read++
		for range 3 {
			wantRead(t, d.dressed(lines), c)
			wantRead(t, plain(d.renamed(lines)), c)
			wantRead(t, d.dressed(d.renamed(lines)), c)
		}
	}
	if read < 2500 {
		t.Errorf("only %d texts", read)
	}
}

// 16.4, W11: what is read has one text: texts of every kind that are the same container are printed alike.
func TestOneText(t *testing.T) {
	for _, text := range []string{overText, overLabels, strings.ReplaceAll(overText, "RJUMPI @7", "bytes 0xe10001"), strings.ReplaceAll(overText, "PUSH1 0x05\nPUSH0", "bytes 0x60\nbytes 0x055f"), strings.ReplaceAll(overText, "PUSH1 0x05\n", "bytes 0x60\nSDIV\n")} {
		c, wrong, _ := asm.Parse(text)
		if wrong != api.OK {
			t.Fatal(wrong)
		}
		wantPrinted(t, c, overText)
	}
	sub := bytesOf(over())
	wantPrinted(t, with(of(raw("00")), sub), head+"STOP\nsub\n"+overText+"end\n"+tail)
	wantRead(t, head+"STOP\nsub "+word(sub)+"\n"+tail, with(of(raw("00")), sub))
}
