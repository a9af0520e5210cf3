package asm_test

import (
	"fmt"
	"math/big"
	"slices"
	"strings"
	"testing"

	"vouch/api"
	"vouch/op"
)

// withWords are the instructions behind whose names words stand.
var withWords = []string{"DATALOADN", "CALLF", "JUMPF", "EOFCREATE", "RETURNCODE", "DUPN", "SWAPN", "EXCHANGE", "RJUMP", "RJUMPI", "RJUMPV"}

// readsBytes: a line of code is read as these bytes, and refused with a word more.
func readsBytes(t *testing.T, line string, want []byte) {
	t.Helper()
	wantRead(t, head+line+"\n"+tail, of(want))
	wantRead(t, head+"PUSH2 258\n"+line+"\nSTOP\n"+tail, of(slices.Concat(raw("610102"), want, raw("00"))))
	wantRefused(t, head+line+" 1\n"+tail, api.ErrSyntax, len(head)+len(line)+1)
	wantRefused(t, head+line+" STOP\n"+tail, api.ErrSyntax, len(head)+len(line)+1)
}

// 16.1: all instructions without words are their byte; no word may stand behind them.
func TestPlainInstructions(t *testing.T) {
	plain := 0
	for row := range op.All() {
		if slices.Contains(withWords, row.Name) || pushed(row.Code) > 0 {
			wantRefused(t, head+row.Name+"\n"+tail, api.ErrSyntax, len(head)+len(row.Name))
			wantRefused(t, head+row.Name+" # 1\n"+tail, api.ErrSyntax, len(head)+len(row.Name)+4)
			wantRefused(t, head+row.Name, api.ErrSyntax, len(head)+len(row.Name))
			continue
		}
		plain++
		readsBytes(t, row.Name, []byte{byte(row.Code)})
		if row.Name != "SUB" { // in small letters that is a line of its own kind
			wantRefused(t, head+strings.ToLower(row.Name)+"\n"+tail, api.ErrName, 18)
		}
		wantRefused(t, head+row.Name+"_\n"+tail, api.ErrName, 18)
		wantPrinted(t, of([]byte{byte(row.Code)}), head+row.Name+"\n"+tail)
	}
	if plain != 153-11-32 {
		t.Errorf("%d instructions without words", plain)
	}
}

// 16.1: PUSHn takes a number below 2^(8 n), in every form.
func TestPushes(t *testing.T) {
	for n := 1; n <= 32; n++ {
		name := fmt.Sprintf("PUSH%d", n)
		beyond := power(uint(8 * n))
		for _, x := range []*big.Int{big.NewInt(0), big.NewInt(1), big.NewInt(255), power(uint(8*n - 8)), plus(power(uint(8*n-8)), -1), power(uint(8*n - 1)), plus(beyond, -2), plus(beyond, -1)} {
			want := append([]byte{byte(0x5f + n)}, x.FillBytes(make([]byte, n))...)
			for _, text := range numbers(x) {
				readsBytes(t, name+" "+text, want)
			}
			wantPrinted(t, of(want), head+name+" "+word(want[1:])+"\n"+tail)
		}
		for _, x := range []*big.Int{beyond, plus(beyond, 1), plus(beyond, 255), power(uint(8*n + 1)), power(uint(8*n + 8)), power(uint(8*n + 64)), power(600)} {
			for _, text := range numbers(x) {
				wantRefused(t, head+name+" "+text+"\n"+tail, api.ErrArg, len(head)+len(name)+1)
			}
		}
	}
	readsBytes(t, "PUSH0", raw("5f"))
	wantRefused(t, head+"PUSH0 0\n"+tail, api.ErrSyntax, 24)
}

// 16.1: the instructions that take one number, at the ends of its bounds and one beyond.
func TestNumbered(t *testing.T) {
	for _, x := range []struct {
		name       string
		code       byte
		least, top int64
		bytes      int
	}{
		{"DATALOADN", 0xd1, 0, 65535, 2}, {"CALLF", 0xe3, 0, 65535, 2}, {"JUMPF", 0xe5, 0, 65535, 2},
		{"EOFCREATE", 0xec, 0, 255, 1}, {"RETURNCODE", 0xee, 0, 255, 1},
		{"DUPN", 0xe6, 1, 256, 1}, {"SWAPN", 0xe7, 1, 256, 1},
	} {
		for _, n := range []int64{x.least, x.least + 1, 2, 10, 127, 128, 254, 255, x.top - 1, x.top} {
			imm := big.NewInt(n - x.least).FillBytes(make([]byte, x.bytes))
			want := append([]byte{x.code}, imm...)
			for _, text := range numbers(big.NewInt(n)) {
				readsBytes(t, x.name+" "+text, want)
			}
			wantPrinted(t, of(want), fmt.Sprintf("%s%s %d\n%s", head, x.name, n, tail))
		}
		for _, n := range []int64{x.least - 1, x.top + 1, x.top + 2, 65536 + x.least, 1<<16 + 1, 1 << 32, 1<<32 + 1, 1<<62 + 1} {
			if n < 0 {
				continue // it has no form
			}
			for _, text := range numbers(big.NewInt(n)) {
				wantRefused(t, head+x.name+" "+text+"\n"+tail, api.ErrArg, len(head)+len(x.name)+1)
			}
		}
		for _, n := range []*big.Int{power(63), power(64), plus(power(64), 1), plus(power(64), 16), plus(power(128), 1), plus(power(256), 1)} {
			wantRefused(t, head+x.name+" "+n.String()+"\n"+tail, api.ErrArg, len(head)+len(x.name)+1)
		}
	}
}

// 16.1: EXCHANGE takes two numbers, 1 to 16 each: all of them, and those beyond.
func TestExchange(t *testing.T) {
	for n := range 19 {
		for m := range 19 {
			line := fmt.Sprintf("EXCHANGE %d %d", n, m)
			switch {
			case n < 1 || n > 16:
				wantRefused(t, head+line+"\n"+tail, api.ErrArg, 27)
			case m < 1 || m > 16:
				wantRefused(t, head+line+"\n"+tail, api.ErrArg, len(head)+strings.LastIndex(line, " ")+1)
			default:
				want := []byte{0xe8, byte(n-1)*16 + byte(m-1)}
				readsBytes(t, line, want)
				readsBytes(t, fmt.Sprintf("EXCHANGE 0x%02x 0x%X", n, m), want)
				wantPrinted(t, of(want), head+line+"\n"+tail)
			}
		}
	}
	wantRefused(t, head+"EXCHANGE 1\n"+tail, api.ErrSyntax, 28)
	wantRefused(t, head+"EXCHANGE 17\n"+tail, api.ErrArg, 27)
	wantRefused(t, head+"EXCHANGE 0 0\n"+tail, api.ErrArg, 27)
	wantRefused(t, head+"EXCHANGE 1 2 3\n"+tail, api.ErrSyntax, 31)
	wantRefused(t, head+"EXCHANGE 0 x\n"+tail, api.ErrArg, 27)
}

// pair is a distance in two bytes.
func pair(distance int) []byte { return []byte{byte(uint16(distance) >> 8), byte(uint16(distance))} }

// 16.1: RJUMP and RJUMPI take one target; the distance is counted from behind the instruction.
func TestJumps(t *testing.T) {
	for name, code := range map[string]byte{"RJUMP": 0xe0, "RJUMPI": 0xe1} {
		for _, place := range []int{-32765, -32764, -300, -256, -1, 0, 1, 2, 3, 4, 5, 258, 259, 32769, 32770} {
			line := fmt.Sprintf("%s @%d", name, place)
			want := append([]byte{code}, pair(place-3)...)
			wantRead(t, head+line+"\n"+tail, of(want))
			wantPrinted(t, of(want), head+line+"\n"+tail)
			wantRefused(t, head+line+" @0\n"+tail, api.ErrSyntax, len(head)+len(line)+1)
			wantRefused(t, head+line+" a\n"+tail, api.ErrSyntax, len(head)+len(line)+1)
			if place >= -32750 {
				wantRead(t, head+"PUSH3 1\n"+line+"\n"+tail, of(slices.Concat(raw("62000001"), []byte{code}, pair(place-7))))
			}
		}
	}
}

// table is a line of RJUMPV with these places, and its bytes, if it stands first in its section.
func table(places ...int) (string, []byte) {
	line, b := "RJUMPV", []byte{0xe2, byte(len(places) - 1)}
	next := 2 + 2*len(places)
	for _, place := range places {
		line += fmt.Sprintf(" @%d", place)
		b = append(b, pair(place-next)...)
	}
	return line, b
}

// 16.1: RJUMPV takes one to 256 targets.
func TestTables(t *testing.T) {
	for _, many := range []int{1, 2, 3, 16, 127, 128, 255, 256} {
		places := make([]int, many)
		for i := range places {
			places[i] = 2 + 2*many + 40*i - 300
		}
		line, want := table(places...)
		wantRead(t, head+line+"\n"+tail, of(want))
		wantPrinted(t, of(want), head+line+"\n"+tail)
		if many == 256 {
			wantRefused(t, head+line+" @0\n"+tail, api.ErrSyntax, len(head)+len(line)+1)
			wantRefused(t, head+line+" @0 @0 STOP\n"+tail, api.ErrSyntax, len(head)+len(line)+1)
			wantRefused(t, head+line+" -\n"+tail, api.ErrSyntax, len(head)+len(line)+1)
		}
		if many > 1 {
			names := strings.Repeat(" a", many-1)
			b := slices.Concat([]byte{0xe2, byte(many - 1)}, slices.Repeat(pair(0), many-1), pair(1))
			wantRead(t, head+"RJUMPV"+names+" b\na:\nSTOP\nb:\nSTOP\n"+tail, of(append(b, 0, 0)))
		}
	}
	for i := range 256 { // each target may be a label, a place, or what is wrong
		words := slices.Repeat([]string{"@514"}, 256)
		b := slices.Concat([]byte{0xe2, 255}, make([]byte, 512))
		words[i] = "here"
		copy(b[2+2*i:], pair(1))
		wantRead(t, head+"RJUMPV "+strings.Join(words, " ")+"\nSTOP\nhere:\nSTOP\n"+tail, of(append(b, 0, 0)))
		place := len(head) + 7 + 5*i
		for wrong, why := range map[string]api.Errno{"Here": api.ErrSyntax, "here": api.ErrName, "@33282": api.ErrArg, "@-32255": api.ErrArg} {
			words[i] = wrong
			wantRefused(t, head+"RJUMPV "+strings.Join(words, " ")+"\nSTOP\n"+tail, why, place)
		}
		for right, distance := range map[string]int{"@33281": 32767, "@-32254": -32768} {
			words[i] = right
			copy(b[2+2*i:], pair(distance))
			wantRead(t, head+"RJUMPV "+strings.Join(words, " ")+"\n"+tail, of(b))
		}
	}
}
