package asm_test

import (
	"strings"
	"testing"

	"vouch/api"
)

const overText = "section 0 never 2\nPUSH1 0x05\nPUSH0\nRJUMPI @7\nINVALID\nSTOP\ndata 0\n"

const overLabels = `section 0x0 128 2    # takes nothing

  PUSH1 5
 PUSH0
 RJUMPI over
 INVALID
over:
 STOP
data 0 0x
`

// over is the container of the two texts of 'Examples'.
func over() api.Container {
	c := of(raw("60 05 5f e1 00 01 fe 00"))
	c.Types[0].Most = 2
	return c
}

// 16.1, 16.3: the two texts of 'Examples'.
func TestExamplesTexts(t *testing.T) {
	wantPrinted(t, over(), overText)
	wantRead(t, overLabels, over())
}

// 16.2: the rows of 'Examples' that are refused; / stands for 0x0a.
func TestExamplesRefused(t *testing.T) {
	for _, x := range []struct {
		text  string
		wrong api.Errno
		at    int
	}{
		{"", api.ErrSyntax, 0},
		{"section 0 never 0/STOP", api.ErrSyntax, 22},
		{"section 0 never 0/STOPP/data 0", api.ErrName, 18},
		{"STOP/", api.ErrSyntax, 0},
		{"section 0 never 0/STOP 1/data 0", api.ErrSyntax, 23},
		{"section 0 never 0/PUSH1/data 0", api.ErrSyntax, 23},
		{"section 0 never 0/PUSH1 256/data 0", api.ErrArg, 24},
		{"section 0 never 0/DUPN 0/data 0", api.ErrArg, 23},
		{"section 0 never 0/RJUMP far/data 0", api.ErrName, 24},
		{"section 0 never 0/a:/a:/data 0", api.ErrName, 21},
		{"section 0 never 0/RJUMP @40000/data 0", api.ErrArg, 24},
		{"section 0 never 0/data 0", api.ErrNone, 18},
		{"section 1 never 1/STOP/data 0", api.ErrType, 23},
		{"section 0 never 0/STOP/data 0/end", api.ErrSyntax, 30},
	} {
		wantRefused(t, strings.ReplaceAll(x.text, "/", "\n"), x.wrong, x.at)
	}
}

// 16.1: the row of 'Examples' with nested containers.
func TestExamplesNested(t *testing.T) {
	text := strings.ReplaceAll("section 0 never 0/STOP/sub 0x0c/sub/section 0 never 0/STOP/data 3 0x01/end/data 0", "/", "\n")
	wantRead(t, text, with(of(raw("00")), raw("0c"), raw("ef0001 010004 0200010001 ff000300 00800000 00 01")))
}

// The tenth example of the whole: a loop of three turns, as text.
func TestExampleOfTheWhole(t *testing.T) {
	c := of(raw("60036001900380e1fff85000"))
	c.Types[0].Most = 2
	wantPrinted(t, c, "section 0 never 2\nPUSH1 0x03\nPUSH1 0x01\nSWAP1\nSUB\nDUP1\nRJUMPI @2\nPOP\nSTOP\ndata 0\n")
}
