package asm_test

import (
	"math"
	"slices"
	"strings"
	"testing"

	"vouch/api"
	"vouch/asm"
	"vouch/op"
)

// 16.3: numbers in decimal digits, Out as never, of PUSHn all its digits, small ones, targets by places, no labels.
func TestPrintInstructions(t *testing.T) {
	for _, x := range []struct{ bytes, text string }{
		{"00", "STOP"}, {"5f", "PUSH0"}, {"6000", "PUSH1 0x00"}, {"60ff", "PUSH1 0xff"}, {"610a00", "PUSH2 0x0a00"}, {"66000000000000ab", "PUSH7 0x000000000000ab"},
		{"7f" + strings.Repeat("00", 32), "PUSH32 0x" + strings.Repeat("00", 32)}, {"7f" + strings.Repeat("0f", 32), "PUSH32 0x" + strings.Repeat("0f", 32)}, {"7f" + strings.Repeat("FE", 32), "PUSH32 0x" + strings.Repeat("fe", 32)},
		{"d10000", "DATALOADN 0"}, {"d1ffff", "DATALOADN 65535"}, {"e30102", "CALLF 258"}, {"e5000a", "JUMPF 10"}, {"ec00", "EOFCREATE 0"}, {"ecff", "EOFCREATE 255"}, {"ee10", "RETURNCODE 16"},
		{"e600", "DUPN 1"}, {"e6ff", "DUPN 256"}, {"e700", "SWAPN 1"}, {"e77f", "SWAPN 128"}, {"e7ff", "SWAPN 256"},
		{"e800", "EXCHANGE 1 1"}, {"e80f", "EXCHANGE 1 16"}, {"e8f0", "EXCHANGE 16 1"}, {"e8ff", "EXCHANGE 16 16"}, {"e821", "EXCHANGE 3 2"},
		{"e00000", "RJUMP @3"}, {"e0fffd", "RJUMP @0"}, {"e0fffc", "RJUMP @-1"}, {"e07fff", "RJUMP @32770"}, {"e18000", "RJUMPI @-32765"}, {"e10007", "RJUMPI @10"},
		{"e2000000", "RJUMPV @4"}, {"e200fffc", "RJUMPV @0"}, {"e2020001fff70000", "RJUMPV @9 @-1 @8"}, {"5fe1fffc5f", "PUSH0\nRJUMPI @0\nPUSH0"},
		{"0c", "bytes 0x0c"}, {"0c0d0e", "bytes 0x0c\nbytes 0x0d\nbytes 0x0e"}, {"ef", "bytes 0xef"}, {"ff", "bytes 0xff"}, {"000c00", "STOP\nbytes 0x0c\nSTOP"}, {"0c6001", "bytes 0x0c\nPUSH1 0x01"},
		{"60", "bytes 0x60"}, {"61ab", "bytes 0x61ab"}, {"0061ab", "STOP\nbytes 0x61ab"}, {"7f000c60", "bytes 0x7f000c60"}, {"e0", "bytes 0xe0"}, {"e00c", "bytes 0xe00c"}, {"e2", "bytes 0xe2"}, {"e200", "bytes 0xe200"}, {"e20000", "bytes 0xe20000"}, {"e201000000", "bytes 0xe201000000"}, {"00e2ff0c000000", "STOP\nbytes 0xe2ff0c000000"}, {"e6", "bytes 0xe6"}, {"0ce8", "bytes 0x0c\nbytes 0xe8"}, {"e3AB", "bytes 0xe3ab"},
	} {
		wantPrinted(t, of(raw(x.bytes)), head+x.text+"\n"+tail)
		wantPrinted(t, of(raw("00"), raw(x.bytes)), head+"STOP\nsection 0 0 0\n"+x.text+"\n"+tail)
	}
}

// 16.3: every byte alone in a section, and with any bytes behind it, cut at each of them.
func TestPrintEveryByte(t *testing.T) {
	for code := range 256 {
		b := append([]byte{byte(code), 2}, row(40)...)
		for size := 1; size <= len(b); size++ {
			c := of(b[:size])
			text, _ := modelPrint(c)
			wantPrinted(t, c, text)
		}
		row, there := op.Of(code)
		switch {
		case !there:
			wantPrinted(t, of([]byte{byte(code)}), head+"bytes "+word([]byte{byte(code)})+"\n"+tail)
		case row.Imm == 0:
			wantPrinted(t, of([]byte{byte(code)}), head+row.Name+"\n"+tail)
		default:
			wantPrinted(t, of([]byte{byte(code)}), head+"bytes "+word([]byte{byte(code)})+"\n"+tail)
		}
	}
}

// 16.3: the sections' types.
func TestPrintTypes(t *testing.T) {
	c := of(raw("00"), raw("00"), raw("00"), raw("00"))
	c.Types = []api.Type{{Out: 128, Most: 1023}, {In: 127, Out: 127, Most: 10}, {In: 1, Out: 128}, {In: 20, Out: 0, Most: 100}}
	wantPrinted(t, c, "section 0 never 1023\nSTOP\nsection 127 127 10\nSTOP\nsection 1 never 0\nSTOP\nsection 20 0 100\nSTOP\n"+tail)
}

// 16.3: nested containers that parse as open ones are text, whole or not; all others are bytes; so within them.
func TestPrintNested(t *testing.T) {
	least := bytesOf(of(raw("00")))
	text := head + "STOP\n" + tail
	open := bytesOf(declared(of(raw("00")), 9, raw("07")))
	for _, x := range []struct {
		bytes []byte
		text  string
	}{
		{raw("00"), "sub 0x00\n"},
		{raw("ABcd"), "sub 0xabcd\n"},
		{least, "sub\n" + text + "end\n"},
		{least[:19], "sub " + word(least[:19]) + "\n"},
		{least[:1], "sub 0xef\n"},
		{append(slices.Clone(least), 0), "sub " + word(append(slices.Clone(least), 0)) + "\n"},
		{open, "sub\n" + head + "STOP\ndata 9 0x07\nend\n"},
		{bytesOf(with(of(raw("0c")), least, raw("01"), open)), "sub\n" + head + "bytes 0x0c\nsub\n" + text + "end\nsub 0x01\nsub\n" + head + "STOP\ndata 9 0x07\nend\n" + tail + "end\n"},
		{bytesOf(with(of(raw("00")), least[:19])), "sub\n" + head + "STOP\nsub " + word(least[:19]) + "\n" + tail + "end\n"},
	} {
		wantPrinted(t, with(of(raw("00")), x.bytes), head+"STOP\n"+x.text+tail)
		wantPrinted(t, with(of(raw("00")), raw("01"), x.bytes, least, x.bytes), head+"STOP\nsub 0x01\n"+x.text+"sub\n"+text+"end\n"+x.text+tail)
	}
}

// 16.3: the data, with bytes and without.
func TestPrintData(t *testing.T) {
	for _, x := range []struct {
		size  int
		bytes string
		text  string
	}{{0, "", "data 0"}, {3, "", "data 3"}, {65535, "", "data 65535"}, {1, "00", "data 1 0x00"}, {3, "aB", "data 3 0xab"}, {300, "0102", "data 300 0x0102"}} {
		wantPrinted(t, declared(of(raw("00")), x.size, raw(x.bytes)), head+"STOP\n"+x.text+"\n")
	}
	wantPrinted(t, declared(of(raw("00")), 65535, row(65535)), head+"STOP\ndata 65535 "+word(row(65535))+"\n")
}

// long is a container whose text has just so many bytes; what makes it long stands in sections, or lies in nested containers as well.
func long(t *testing.T, size int, nested bool) api.Container {
	t.Helper()
	c := with(of(raw("00")), raw("01"))
	if nested {
		deep := of(make([]byte, 65535), make([]byte, 30000))
		c = with(c, bytesOf(with(deep, raw("0c"))))
	}
	add := func(code []byte) {
		c.Codes, c.Types = append(c.Codes, code), append(c.Types, api.Type{})
	}
	const line, full = len("section 0 0 0\n"), 60000
	for size-len(modelText(c)) > line+5*full+100 {
		add(make([]byte, full))
	}
	left := size - len(modelText(c)) - line
	var last []byte
	for ; left%5 != 0; left -= 4 {
		last = append(last, 0x01) // ADD has a letter less than STOP
	}
	add(append(last, make([]byte, left/5)...))
	if got := len(modelText(c)); got != size {
		t.Fatalf("a text of %d bytes, not %d", got, size)
	}
	return c
}

// 16.3: a text of MaxText bytes is written, and read again; one that would be longer is not.
func TestPrintLongest(t *testing.T) {
	for _, nested := range []bool{false, true} {
		for _, less := range []int{1000, 2, 1, 0} {
			c := long(t, most-less, nested)
			wantPrinted(t, c, modelText(c))
		}
		for _, more := range []int{1, 2, 3, 1000, 500000} {
			wantUnprinted(t, long(t, most+more, nested), api.ErrLong)
		}
	}
}

// 16.3: texts that would be far too long, in every part of a container.
func TestPrintTooLong(t *testing.T) {
	whole := bytesOf(of(make([]byte, 65535), make([]byte, 65535), make([]byte, 65535), make([]byte, 65535)))
	for _, c := range []api.Container{
		of(slices.Repeat([][]byte{make([]byte, 65535)}, 1024)...),
		of(slices.Repeat([][]byte{slices.Repeat([]byte{0x0c}, 65535)}, 2)...),
		with(of(raw("00")), make([]byte, 1<<19)),
		with(of(raw("00")), make([]byte, 1<<24)),
		with(of(raw("00")), whole),
		with(of(raw("00")), bytesOf(with(of(raw("00")), bytesOf(with(of(raw("00")), whole))))),
		declared(with(of(raw("00")), make([]byte, 1<<19-65535)), 65535, row(65535)),
	} {
		wantUnprinted(t, c, api.ErrLong)
	}
	c := with(of(raw("00")), make([]byte, 1<<19-19))
	wantPrinted(t, c, modelText(c))
	if n := len(modelText(c)); n != most-1 {
		t.Errorf("a text of %d bytes", n)
	}
}

// 16.3, R2: what Check refuses, ahead of a length.
func TestPrintChecks(t *testing.T) {
	huge := slices.Repeat([][]byte{make([]byte, 65535)}, 30)
	wantUnprinted(t, api.Container{}, api.ErrCodes)
	for _, x := range []struct {
		turn  func(c *api.Container)
		wrong api.Errno
	}{
		{func(c *api.Container) { c.Codes = nil }, api.ErrCodes},
		{func(c *api.Container) { c.Codes = make([][]byte, 1025) }, api.ErrCodes},
		{func(c *api.Container) { c.Types = nil }, api.ErrTypes},
		{func(c *api.Container) { c.Types = append(c.Types, api.Type{}) }, api.ErrTypes},
		{func(c *api.Container) { c.Codes[0] = nil }, api.ErrNone},
		{func(c *api.Container) { c.Codes[1] = make([]byte, 65536) }, api.ErrLong},
		{func(c *api.Container) { c.Subs = make([][]byte, 257) }, api.ErrSubs},
		{func(c *api.Container) { c.Subs = [][]byte{{}} }, api.ErrNone},
		{func(c *api.Container) { c.Size = 65536 }, api.ErrLong},
		{func(c *api.Container) { c.Size = -1 }, api.ErrArg},
		{func(c *api.Container) { c.Size = math.MinInt }, api.ErrArg},
		{func(c *api.Container) { c.Size = math.MaxInt }, api.ErrLong},
		{func(c *api.Container) { c.Size, c.Data = 1, row(2) }, api.ErrArg},
		{func(c *api.Container) { c.Types[0].In = 1 }, api.ErrType},
		{func(c *api.Container) { c.Types[0].Out = 0 }, api.ErrType},
		{func(c *api.Container) { c.Types[1].In = 128 }, api.ErrType},
		{func(c *api.Container) { c.Types[1].Out = -1 }, api.ErrType},
		{func(c *api.Container) { c.Types[1].Most = 1024 }, api.ErrType},
	} {
		c := of(raw("00"), raw("e4"))
		x.turn(&c)
		wantUnprinted(t, c, x.wrong)
		c = of(append([][]byte{raw("00"), raw("e4")}, huge...)...)
		x.turn(&c)
		wantUnprinted(t, c, x.wrong)
	}
	if text, wrong := asm.Print(of(append([][]byte{raw("00")}, huge...)...)); text != "" || wrong != api.ErrLong {
		t.Error("what is only long is not told so")
	}
}
