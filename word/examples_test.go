package word_test

import (
	"strings"
	"testing"

	"vouch/api"
	"vouch/word"
)

// The table 'Examples' of the chapter, row by row.

func TestExamplesOfWords(t *testing.T) {
	for _, x := range []struct {
		name      string
		got, want api.Word
	}{
		{"Add(2^256 - 1, 1)", word.Add(most, num(1)), zero},
		{"Sub(0, 1)", word.Sub(zero, num(1)), most},
		{"Div(7, 0)", word.Div(num(7), zero), zero},
		{"Mod(7, 0)", word.Mod(num(7), zero), zero},
		{"SDiv(-7, 2)", word.SDiv(neg(7), num(2)), neg(3)},
		{"SMod(-7, 2)", word.SMod(neg(7), num(2)), neg(1)},
		{"SMod(7, -2)", word.SMod(num(7), neg(2)), num(1)},
		{"AddMod(2^256 - 1, 2, 5)", word.AddMod(most, num(2), num(5)), num(2)},
		{"MulMod(2^255, 2, 3)", word.MulMod(half, num(2), num(3)), num(1)},
		{"Exp(0, 0)", word.Exp(zero, zero), num(1)},
		{"Exp(2, 256)", word.Exp(num(2), num(256)), zero},
		{"SignExtend(0, 0x80)", word.SignExtend(zero, num(0x80)), neg(128)},
		{"SignExtend(0, 0x17f)", word.SignExtend(zero, num(0x17f)), num(0x7f)},
		{"SignExtend(31, 5)", word.SignExtend(num(31), num(5)), num(5)},
		{"Byte(31, 0x1234)", word.Byte(num(31), num(0x1234)), num(0x34)},
		{"Byte(30, 0x1234)", word.Byte(num(30), num(0x1234)), num(0x12)},
		{"Byte(32, 0x1234)", word.Byte(num(32), num(0x1234)), zero},
		{"Sar(1, -1)", word.Sar(num(1), neg(1)), neg(1)},
		{"Sar(300, 5)", word.Sar(num(300), num(5)), zero},
		{"Sar(2^255, -5)", word.Sar(half, neg(5)), neg(1)},
		{"Clz(0)", word.Clz(zero), num(256)},
		{"Clz(1)", word.Clz(num(1)), num(255)},
		{"Clz(2^255)", word.Clz(half), zero},
		{"Size(0)", num(uint64(word.Size(zero))), zero},
		{"Size(255)", num(uint64(word.Size(num(255)))), num(1)},
		{"Size(256)", num(uint64(word.Size(num(256)))), num(2)},
	} {
		if x.got != x.want {
			t.Errorf("%s: %x, want %x", x.name, x.got, x.want)
		}
	}
}

func TestExamplesWithTruths(t *testing.T) {
	for _, x := range []struct {
		name string
		call func() (api.Word, bool)
		want api.Word
		ok   bool
	}{
		{"Do(0x12, -1, 0, 9)", func() (api.Word, bool) { return word.Do(0x12, neg(1), zero, num(9)) }, num(1), true},
		{"Do(0x20, 1, 2, 3)", func() (api.Word, bool) { return word.Do(0x20, num(1), num(2), num(3)) }, zero, false},
		{"Sum(2^256 - 1, 1)", func() (api.Word, bool) { return word.Sum(most, num(1)) }, zero, false},
		{"Sum(2^256 - 1, 0)", func() (api.Word, bool) { return word.Sum(most, zero) }, most, true},
		{"Sum()", func() (api.Word, bool) { return word.Sum() }, zero, true},
	} {
		if y, ok := x.call(); y != x.want || ok != x.ok {
			t.Errorf("%s: %x, %v", x.name, y, ok)
		}
	}
}

func TestExamplesOfForms(t *testing.T) {
	if y, e := word.FromBytes([]byte{1, 0}); y != num(256) || e != api.OK {
		t.Errorf("FromBytes(01 00): %x, %d", y, e)
	}
	if y, e := word.FromBytes(make([]byte, 33)); y != zero || e != api.ErrLong {
		t.Errorf("FromBytes(33 bytes): %x, %d", y, e)
	}
	if word.Hex(num(256)) != "0x100" || word.Text(num(256)) != "256" {
		t.Error("Hex, Text of 256")
	}
	for _, x := range []struct {
		s    string
		want api.Word
		e    api.Errno
	}{
		{"0x", zero, api.ErrNumber},
		{"", zero, api.ErrNumber},
		{"-1", zero, api.ErrNumber},
		{"0X1", zero, api.ErrNumber},
		{"1 ", zero, api.ErrNumber},
		{"0x0Ff", num(255), api.OK},
		{strings.Repeat("0", 79), zero, api.ErrLong},
		{strings.Repeat("0", 78), zero, api.OK},
	} {
		if y, e := word.Parse(x.s); y != x.want || e != x.e {
			t.Errorf("Parse(%q): %x, %d", x.s, y, e)
		}
	}
}
