package asm_test

import (
	"bytes"
	"fmt"
	"slices"
	"strings"
	"testing"

	"vouch/api"
)

// 16.1: a label names the place behind what stands ahead of it in its section: ahead of a jump, behind it, at the section's ends, many at one place.
func TestLabels(t *testing.T) {
	for _, x := range []struct{ code, bytes string }{
		{"a:\nRJUMP a", "e0 fffd"},
		{"RJUMP a\na:", "e0 0000"},
		{"RJUMP a\nSTOP\na:", "e0 0001 00"},
		{"a:\nSTOP\nRJUMP a", "00 e0 fffc"},
		{"PUSH0\na:\nRJUMPI a\nRJUMP a", "5f e1 fffd e0 fffa"},
		{"a:\nb:\nRJUMPV a b c\nc:\nd:\nSTOP\nRJUMPI d", "e2 02 fff8 fff8 0000 00 e1 fffc"},
		{"RJUMPI b\nRJUMPI a\na:\nRJUMPI b\nb:\nRJUMPI a", "e1 0006 e1 0000 e1 0000 e1 fffa"},
		{"bytes 0x0c0d\na:\nbytes 0x\nbytes 0xff\nRJUMP a", "0c0d ff e0 fffc"},
		{"PUSH4 9\nx:\nDUPN 3\ny:\nEXCHANGE 1 2\nRJUMPV x y x", "63 00000009 e602 e801 e2 02 fff4 fff6 fff4"},
		{"RJUMP a1\nRJUMP a_\nRJUMP a\na_:\nSTOP\na:\nSTOP\na1:", "e0 0008 e0 0003 e0 0001 00 00"},
		{"a:\nSTOP", "00"},
		{"RJUMP @0\na:\nRJUMP @3\nRJUMP a", "e0 fffd e0 fffd e0 fffa"},
	} {
		wantRead(t, head+x.code+"\n"+tail, of(raw(x.bytes)))
	}
}

// 16.1: a name belongs to its section alone.
func TestLabelsOfSections(t *testing.T) {
	two := head + "RJUMP a\nSTOP\na:\nSTOP\nsection 0 0 0\nSTOP\na:\nRJUMP a\n"
	first, second := raw("e0 0001 00 00"), raw("00 e0 fffd")
	wantRead(t, two+tail, of(first, second))
	nested := head + "STOP\nSTOP\nSTOP\na:\nRJUMPI a\nsection 1 1 1\na:\nRJUMP a\n" + tail
	sub := of(raw("000000 e1 fffd"), raw("e0 fffd"))
	sub.Types[1] = api.Type{In: 1, Out: 1, Most: 1}
	wantRead(t, two+"sub\n"+nested+"end\nsub\n"+nested+"end\n"+tail, with(of(first, second), bytesOf(sub), bytesOf(sub)))
	wantRefused(t, head+"a:\nSTOP\nsection 0 0 0\nRJUMP a\n"+tail, api.ErrName, 46)
	wantRefused(t, head+"RJUMP a\nsection 0 0 0\na:\nSTOP\n"+tail, api.ErrName, 24)
	wantRefused(t, head+"a:\nSTOP\nsub\n"+head+"RJUMP a\n"+tail+"end\n"+tail, api.ErrName, 18+3+5+4+18+6)
	wantRefused(t, head+"RJUMP a\nsub\n"+head+"a:\nSTOP\n"+tail+"end\n"+tail, api.ErrName, 24)
}

// 16.1: In, Out and Most of each section, as numbers or never.
func TestSections(t *testing.T) {
	for _, x := range []struct {
		words string
		kind  api.Type
	}{
		{"0 0 0", api.Type{}}, {"1 2 3", api.Type{In: 1, Out: 2, Most: 3}}, {"127 128 1023", api.Type{In: 127, Out: 128, Most: 1023}},
		{"0x7f never 0x3fF", api.Type{In: 127, Out: 128, Most: 1023}}, {"0x0 0x7F 0x0000", api.Type{Out: 127}}, {"5 0x80 7", api.Type{In: 5, Out: 128, Most: 7}},
	} {
		want := of(raw("00"), raw("e4"), raw("0102"))
		want.Types[1] = x.kind
		wantRead(t, head+"STOP\nsection "+x.words+"\nRETF\nsection 0 0 0\nADD\nMUL\n"+tail, want)
	}
	for _, x := range []struct {
		words string
		wrong api.Errno
		at    int
	}{
		{"", api.ErrSyntax, 7}, {"0", api.ErrSyntax, 9}, {"0 never", api.ErrSyntax, 15}, {"0 never 0 0", api.ErrSyntax, 18}, {"0 never 0 STOP", api.ErrSyntax, 18},
		{"65536 never 0", api.ErrArg, 8}, {"0 65536 0", api.ErrArg, 10}, {"0 never 65536", api.ErrArg, 16}, {"never never 0", api.ErrSyntax, 8}, {"0 never never", api.ErrSyntax, 16},
		{"65536", api.ErrArg, 8}, {"0 65536", api.ErrArg, 10}, {"x 65536 0", api.ErrSyntax, 8}, {"0 x 65536", api.ErrSyntax, 10}, {"65536 x 0", api.ErrArg, 8},
	} {
		line := strings.TrimSuffix("section "+x.words, " ")
		wantRefused(t, line+"\nSTOP\n"+tail, x.wrong, x.at)
		wantRefused(t, head+"STOP\n"+line+"\nSTOP\n"+tail, x.wrong, x.at+len(head)+5)
	}
	for _, kind := range []string{"65535 never 0", "0 65535 0", "0 never 65535", "0 0xffff 0", "1 never 0", "0 127 0", "0 129 0", "0 never 1024"} {
		wantRefused(t, "section "+kind+"\nSTOP\n"+tail, api.ErrType, len("section "+kind)+6)
	}
}

// 16.1: sections may have no code, by lines; Check then refuses them.
func TestSectionsWithoutCode(t *testing.T) {
	for _, code := range []string{"", "a:\n", "bytes 0x\n", "bytes 0x\na:\nb:\nbytes 0x\n", "\n# STOP\n"} {
		wantRefused(t, head+code+tail, api.ErrNone, len(head)+len(code))
		wantRefused(t, head+code+"section 0 0 0\nSTOP\n"+tail, api.ErrNone, len(head)+len(code)+19)
		wantRefused(t, head+"STOP\nsection 0 0 0\n"+code+tail, api.ErrNone, len(head)+19+len(code))
	}
}

// 16.1: a section's code is what its lines are, one behind the other.
func TestCodeOfLines(t *testing.T) {
	lines := []string{"STOP", "PUSH1 7", "PUSH32 0x1", "bytes 0x00", "bytes 0x", "bytes 0xdeadbeef", "a:", "CALLF 3", "DUPN 256", "EXCHANGE 16 16", "RJUMP @0", "RJUMPV @0 @1", "b:"}
	var text strings.Builder
	for range 40 {
		for _, line := range lines[:6] {
			text.WriteString(line + "\n")
		}
	}
	b := slices.Repeat(slices.Concat(raw("00 6007 7f"), make([]byte, 31), raw("01 00 deadbeef")), 40)
	wantRead(t, head+text.String()+tail, of(b))
	wantRead(t, head+strings.Join(lines, "\n")+"\n"+tail, of(slices.Concat(raw("00 6007 7f"), make([]byte, 31), raw("01 00 deadbeef e30003 e6ff e8ff"), []byte{0xe0}, pair(-51), []byte{0xe2, 1}, pair(-57), pair(-56))))
}

// 16.1: nested containers: by bytes of any kind, by text, in one another.
func TestNested(t *testing.T) {
	least := bytesOf(of(raw("00")))
	text := head + "STOP\n" + tail
	for _, x := range []struct {
		text string
		subs [][]byte
	}{
		{"sub 0x00\n", [][]byte{{0}}},
		{"sub 0xffFF\nsub 0xef00\nsub 0x01\n", [][]byte{raw("ffff"), raw("ef00"), raw("01")}},
		{"sub\n" + text + "end\n", [][]byte{least}},
		{"sub " + word(least) + "\n", [][]byte{least}},
		{"sub\n" + text + "end\nsub 0x77\nsub\n" + text + "end\n", [][]byte{least, raw("77"), least}},
		{"sub\n" + head + "STOP\nsub\n" + text + "end\n" + tail + "end\nsub 0x01\n", [][]byte{bytesOf(with(of(raw("00")), least)), raw("01")}},
		{"sub\n" + head + "STOP\nsub 0x0c\nsub\n" + text + "end\nsub 0x0d\ndata 5 0x01\nend\n", [][]byte{bytesOf(declared(with(of(raw("00")), raw("0c"), least, raw("0d")), 5, []byte{1}))}},
	} {
		wantRead(t, head+"STOP\n"+x.text+tail, with(of(raw("00")), x.subs...))
	}
	c, inner := of(raw("00")), text
	for range 60 {
		c = with(declared(of(raw("5f"), raw("e4")), 3, raw("0708")), bytesOf(c))
		inner = head + "PUSH0\nsection 0 0 0\nRETF\nsub\n" + inner + "end\ndata 3 0x0708\n"
		wantRead(t, inner, c)
	}
}

// 16.1: the data: their declared length, and what is there.
func TestData(t *testing.T) {
	for _, size := range []int{0, 1, 2, 255, 256, 65534, 65535} {
		for _, there := range []int{0, 1, 2, size - 1, size} {
			if there < 0 || there > size {
				continue
			}
			b := row(there)
			want := declared(of(raw("00")), size, b)
			wantRead(t, fmt.Sprintf("%sSTOP\ndata %d %s", head, size, word(b)), want)
			wantRead(t, fmt.Sprintf("%sSTOP\ndata 0x%X %s\n", head, size, word(b)), want)
			wantRead(t, fmt.Sprintf("%sSTOP\nsub\n%sSTOP\ndata %d %s\nend\n%s", head, head, size, word(b), tail), with(of(raw("00")), bytesOf(want)))
			if there == 0 {
				wantRead(t, fmt.Sprintf("%sSTOP\ndata %d", head, size), want)
			}
		}
		wantRefused(t, fmt.Sprintf("%sSTOP\ndata %d %s", head, size, word(row(size+1))), api.ErrArg, 23)
	}
	wantRefused(t, head+"STOP\ndata 0 0x 0x\n", api.ErrSyntax, 33)
	wantRefused(t, head+"STOP\ndata\n", api.ErrSyntax, 27)
	wantRefused(t, head+"STOP\ndata", api.ErrSyntax, 27)
}

// 16.1: as many sections and nested containers as there may be.
func TestManyParts(t *testing.T) {
	codes := make([][]byte, 1024)
	for i := range codes {
		codes[i] = bytes.Repeat([]byte{0x5f}, 1+i%3)
	}
	c := of(codes...)
	text := head
	for i, b := range codes {
		if i > 0 {
			text += "section 0 0 0\n"
		}
		text += strings.Repeat("PUSH0\n", len(b))
	}
	for i := range 256 {
		c.Subs = append(c.Subs, []byte{byte(i), 1})
		text += fmt.Sprintf("sub 0x%02x01\n", i)
	}
	wantPrinted(t, c, text+tail)
	wantRefused(t, text+"sub 0x77\n"+tail, api.ErrSubs, len(text)+9)
}
