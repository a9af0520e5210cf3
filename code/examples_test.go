package code_test

import (
	"slices"
	"testing"

	"vouch/api"
	"vouch/code"
)

// 6.1: the rows of 'Examples' of One.
func TestExamplesOne(t *testing.T) {
	for _, x := range []struct {
		text  string
		at    int
		want  api.Instr
		wrong api.Errno
	}{
		{"60 07 00", 0, api.Instr{At: 0, Code: 0x60, Imm: []byte{7}, Next: 2}, api.OK},
		{"60 07 00", 1, api.Instr{At: 1, Code: 0x07, Next: 2}, api.OK},
		{"60 07 00", 2, api.Instr{At: 2, Code: 0x00, Next: 3}, api.OK},
		{"60 07 00", 3, api.Instr{}, api.ErrArg},
		{"60 07 00", -1, api.Instr{}, api.ErrArg},
		{"0c", 0, api.Instr{}, api.ErrOpcode},
		{"61 07", 0, api.Instr{}, api.ErrImm},
		{"e2", 0, api.Instr{}, api.ErrImm},
		{"e2 01 00 00 00", 0, api.Instr{}, api.ErrImm},
	} {
		if i, wrong := code.One(raw(x.text), x.at); wrong != x.wrong || !same(i, x.want) {
			t.Errorf("One(%s, %d): %+v, %d", x.text, x.at, i, wrong)
		}
	}
}

// 6.3: the rows of 'Examples' of Scan.
func TestExamplesScan(t *testing.T) {
	all, wrong, at := code.Scan(raw("60 07 00"))
	want := []api.Instr{{At: 0, Code: 0x60, Imm: []byte{7}, Next: 2}, {At: 2, Code: 0x00, Next: 3}}
	if wrong != api.OK || at != 0 || !slices.EqualFunc(all, want, same) {
		t.Errorf("Scan(60 07 00): %+v, %d, %d", all, wrong, at)
	}
	for _, x := range []struct {
		text  string
		wrong api.Errno
		at    int
	}{
		{"60 07", api.ErrOpen, 0},
		{"", api.ErrOpen, 0},
		{"5f 56", api.ErrOpcode, 1},
		{"5f 61 00", api.ErrImm, 1},
	} {
		if all, wrong, at := code.Scan(raw(x.text)); all != nil || wrong != x.wrong || at != x.at {
			t.Errorf("Scan(%s): %+v, %d, %d", x.text, all, wrong, at)
		}
	}
}

// 6.4: the rows of 'Examples' of Starts.
func TestExamplesStarts(t *testing.T) {
	if starts := code.Starts(raw("60 07 00")); !slices.Equal(starts, []bool{true, false, true}) {
		t.Error(starts)
	}
	if starts := code.Starts(raw("5f 56 00")); !slices.Equal(starts, []bool{true, false, false}) {
		t.Error(starts)
	}
}

// 6.6: the rows of 'Examples' of Leads.
func TestExamplesLeads(t *testing.T) {
	if to := code.Leads(instr(raw("e0 ff fd"), 0)); !slices.Equal(to, []int{0}) {
		t.Error(to)
	}
	if to := code.Leads(instr(raw("e2 01 00 00 ff ff"), 4)); !slices.Equal(to, []int{10, 9}) {
		t.Error(to)
	}
}

// 6.8: the rows of 'Examples' of Check.
func TestExamplesCheck(t *testing.T) {
	for _, x := range []struct {
		text  string
		wrong api.Errno
		at    int
	}{
		{"e0 00 00 00", api.OK, 0},
		{"e0 00 01 00", api.ErrTarget, 0},
		{"e1 ff ff 00", api.ErrTarget, 0},
	} {
		if wrong, at := code.Check(raw(x.text)); wrong != x.wrong || at != x.at {
			t.Errorf("Check(%s): %d, %d", x.text, wrong, at)
		}
	}
}

// 6.7: the rows of 'Examples' of Named.
func TestExamplesNamed(t *testing.T) {
	for _, x := range []struct {
		text string
		n    int
		ok   bool
	}{
		{"e3 01 02", 258, true},
		{"ec 05", 5, true},
		{"5f", 0, false},
	} {
		if n, ok := code.Named(instr(raw(x.text), 0)); n != x.n || ok != x.ok {
			t.Errorf("Named(%s): %d, %v", x.text, n, ok)
		}
	}
}
