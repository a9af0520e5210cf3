package op_test

import (
	"testing"

	"vouch/api"
	"vouch/op"
)

func wantRow(t *testing.T, row api.Op, ok bool, want api.Op) {
	t.Helper()
	if row != want || ok != (want != api.Op{}) {
		t.Errorf("%+v, %v; want %+v", row, ok, want)
	}
}

// The chapter's table 'Examples', row by row.
func TestExamples(t *testing.T) {
	of := func(code int, want api.Op) {
		t.Helper()
		row, ok := op.Of(code)
		wantRow(t, row, ok, want)
	}
	byName := func(name string, want api.Op) {
		t.Helper()
		row, ok := op.ByName(name)
		wantRow(t, row, ok, want)
	}
	bars := func(code, kind int) {
		t.Helper()
		if !op.Bars(code, kind) {
			t.Errorf("Bars(%#x, %d): false", code, kind)
		}
	}

	of(0x01, api.Op{Code: 0x01, Name: "ADD", Imm: 0, In: 2, Out: 1, Gas: 3, Ends: false})

	of(0x56, api.Op{})
	of(-1, api.Op{})
	of(256, api.Op{})

	of(0x8f, api.Op{Code: 0x8f, Name: "DUP16", In: 16, Out: 17, Gas: 3})

	of(0xe2, api.Op{Code: 0xe2, Name: "RJUMPV", Imm: api.Table, In: 1, Out: 0, Gas: 4})

	byName("PUSH32", api.Op{Code: 0x7f, Name: "PUSH32", Imm: 32, In: 0, Out: 1, Gas: 3})
	byName("push1", api.Op{})
	byName("PUSH", api.Op{})

	wantNeeds(t, 0xe8, []byte{0x21}, 6, 6, true)

	wantNeeds(t, 0xe6, []byte{255}, 256, 257, true)
	wantNeeds(t, 0xe6, nil, 0, 0, false)

	wantNeeds(t, 0xe2, []byte{1, 0, 0, 0, 0}, 1, 0, true)
	wantNeeds(t, 0xe2, []byte{1, 0, 0}, 0, 0, false)

	bars(0x00, api.Init)
	bars(0xee, api.Runtime)
	bars(0x01, 3)
}
