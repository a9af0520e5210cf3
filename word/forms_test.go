package word_test

import (
	"bytes"
	"math/big"
	"strings"
	"testing"

	"vouch/api"
	"vouch/word"
)

// 1.14
func TestBytes(t *testing.T) {
	for _, x := range some(500) {
		b := word.Bytes(x)
		if want := number(x).FillBytes(make([]byte, 32)); !bytes.Equal(b[:], want) {
			t.Fatalf("Bytes(%x): %x, want %x", x, b, want)
		}
		for n := range 33 {
			want := new(big.Int).SetBytes(b[32-n:])
			if y, e := word.FromBytes(b[32-n:]); e != api.OK || y != toWord(want) {
				t.Fatalf("FromBytes(%x): %x, %d", b[32-n:], y, e)
			}
			want.SetBytes(b[:n])
			if y, e := word.FromBytes(b[:n]); e != api.OK || y != toWord(want) {
				t.Fatalf("FromBytes(%x): %x, %d", b[:n], y, e)
			}
		}
	}
	for _, b := range [][]byte{nil, {}, {0}, make([]byte, 32)} {
		if y, e := word.FromBytes(b); e != api.OK || y != zero {
			t.Errorf("FromBytes(%x): %x, %d", b, y, e)
		}
	}
	for _, n := range []int{33, 34, 64, 1000} {
		for _, c := range []byte{0, 1, 255} {
			if y, e := word.FromBytes(bytes.Repeat([]byte{c}, n)); e != api.ErrLong || y != zero {
				t.Errorf("FromBytes of %d bytes %d: %x, %d", n, c, y, e)
			}
		}
	}
}

// 1.15
func TestUint(t *testing.T) {
	for _, n := range []uint64{0, 1, 77, 1 << 32, 1 << 63, 1<<64 - 1} {
		if x := word.FromUint(n); number(x).Cmp(new(big.Int).SetUint64(n)) != 0 {
			t.Errorf("FromUint(%d): %x", n, x)
		}
	}
	for _, x := range some(500) {
		want, fits := uint64(0), number(x).IsUint64()
		if fits {
			want = number(x).Uint64()
		}
		if n, ok := word.Uint(x); ok != fits || n != want {
			t.Errorf("Uint(%x): %d, %v", x, n, ok)
		}
	}
	for k := 64; k < 256; k++ {
		if n, ok := word.Uint(word.Add(power(k), num(5))); ok || n != 0 {
			t.Errorf("Uint(2^%d + 5): %d, %v", k, n, ok)
		}
	}
}

// 1.15
func TestAddress(t *testing.T) {
	d := draw(8)
	for i := range 500 {
		var a api.Address
		for k := range a {
			if k >= i%20 {
				a[k] = byte(d.next())
			}
		}
		x := word.FromAddress(a)
		if number(x).Cmp(new(big.Int).SetBytes(a[:])) != 0 {
			t.Errorf("FromAddress(%x): %x", a, x)
		}
		if b, ok := word.ToAddress(x); !ok || b != a {
			t.Errorf("ToAddress(%x): %x, %v", x, b, ok)
		}
	}
	for _, x := range some(500) {
		var want api.Address
		fits := number(x).BitLen() <= 160
		if fits {
			number(x).FillBytes(want[:])
		}
		if a, ok := word.ToAddress(x); ok != fits || a != want {
			t.Errorf("ToAddress(%x): %x, %v", x, a, ok)
		}
	}
	last := api.Address(bytes.Repeat([]byte{255}, 20))
	if a, ok := word.ToAddress(word.Sub(power(160), num(1))); !ok || a != last {
		t.Errorf("ToAddress(2^160 - 1): %x, %v", a, ok)
	}
	for k := 160; k < 256; k++ {
		if a, ok := word.ToAddress(word.Add(power(k), num(5))); ok || a != (api.Address{}) {
			t.Errorf("ToAddress(2^%d + 5): %x, %v", k, a, ok)
		}
	}
}

// 1.16
func TestHexAndText(t *testing.T) {
	for _, x := range some(2000) {
		if got, want := word.Hex(x), "0x"+number(x).Text(16); got != want {
			t.Errorf("Hex: %s, want %s", got, want)
		}
		if got, want := word.Text(x), number(x).Text(10); got != want {
			t.Errorf("Text: %s, want %s", got, want)
		}
	}
	if word.Hex(zero) != "0x0" || word.Text(zero) != "0" {
		t.Error("Hex, Text of 0")
	}
}

// parseModel reads as 1.17 says, by plain numbers.
func parseModel(s string) (api.Word, api.Errno) {
	if len(s) > 78 {
		return zero, api.ErrLong
	}
	digits, base, allowed := s, 10, "0123456789"
	if strings.HasPrefix(s, "0x") {
		digits, base, allowed = s[2:], 16, "0123456789abcdefABCDEF"
		if len(digits) > 64 {
			return zero, api.ErrNumber
		}
	}
	if digits == "" || strings.Trim(digits, allowed) != "" {
		return zero, api.ErrNumber
	}
	n, _ := new(big.Int).SetString(digits, base)
	if n.Cmp(end) >= 0 {
		return zero, api.ErrNumber
	}
	return toWord(n), api.OK
}

func holdParse(t *testing.T, s string) {
	t.Helper()
	want, wrong := parseModel(s)
	if x, e := word.Parse(s); x != want || e != wrong {
		t.Errorf("Parse(%q): %x, %d; want %x, %d", s, x, e, want, wrong)
	}
}

// 1.17
func TestParse(t *testing.T) {
	for _, x := range some(300) {
		for _, s := range []string{word.Hex(x), word.Text(x)} {
			holdParse(t, s)
			holdParse(t, "0x"+strings.ToUpper(s[min(2, len(s)):]))
			holdParse(t, strings.ToUpper(s))
			holdParse(t, "0"+s)
			holdParse(t, s+"0")
			holdParse(t, strings.Repeat("0", max(0, 78-len(s)))+s)
			holdParse(t, strings.Repeat("0", max(0, 79-len(s)))+s)
		}
	}
	for n := range 100 {
		for _, c := range []string{"0", "1", "9", "f", "F", "x", " "} {
			holdParse(t, strings.Repeat(c, n))
			holdParse(t, "0x"+strings.Repeat(c, n))
		}
	}
}

// 1.17: the bounds of either form, and of the number.
func TestParseAtItsEnds(t *testing.T) {
	last := new(big.Int).Sub(end, one)
	for _, x := range []struct {
		s    string
		want api.Word
		e    api.Errno
	}{
		{last.Text(10), most, api.OK},
		{end.Text(10), zero, api.ErrNumber},
		{new(big.Int).Add(end, one).Text(10), zero, api.ErrNumber},
		{strings.Repeat("9", 78), zero, api.ErrNumber},
		{strings.Repeat("9", 77), toWord(new(big.Int).Sub(new(big.Int).Exp(big.NewInt(10), big.NewInt(77), nil), one)), api.OK},
		{"0" + last.Text(10), zero, api.ErrLong},
		{"0x" + strings.Repeat("F", 64), most, api.OK},
		{"0x1" + strings.Repeat("0", 64), zero, api.ErrNumber},
		{"0x0" + strings.Repeat("f", 64), zero, api.ErrNumber},
		{"0x" + strings.Repeat("0", 76), zero, api.ErrNumber},
		{"0x" + strings.Repeat("0", 77), zero, api.ErrLong},
		{"0x" + strings.Repeat("0", 63) + "1", num(1), api.OK},
		{strings.Repeat("0", 77) + "7", num(7), api.OK},
		{strings.Repeat("0", 77) + "a", zero, api.ErrNumber},
		{strings.Repeat("?", 79), zero, api.ErrLong},
		{"0xABCDEFabcdef", num(0xabcdefabcdef), api.OK},
	} {
		if y, e := word.Parse(x.s); y != x.want || e != x.e {
			t.Errorf("Parse(%q): %x, %d", x.s, y, e)
		}
	}
}

// 1.17: nothing else may stand in it.
func TestParseOfOtherTexts(t *testing.T) {
	for c := range 256 {
		b := string([]byte{byte(c)})
		for _, s := range []string{b, b + "1", "1" + b, "1" + b + "1", "0x" + b, "0x1" + b, "0x" + b + "1", "0" + b + "1", b + "x1"} {
			holdParse(t, s)
		}
	}
	for _, s := range []string{"", "0x", "x", "0x0x1", "-1", "+1", "-0x1", "+0x1", "0X1", "0b1", "0o7", "1_0", "0x1_0", "1e3", "1.0", " 1", "1 ", "1\n", "\x001", "1\x00", "０", "0x１", "٣", "nan"} {
		if x, e := word.Parse(s); x != zero || e != api.ErrNumber {
			t.Errorf("Parse(%q): %x, %d", s, x, e)
		}
	}
}

// 1.18
func TestThereAndBack(t *testing.T) {
	l := some(1000)
	for k := range 256 {
		l = append(l, power(k), word.Sub(power(k), num(1)))
	}
	for ten := num(1); word.Lt(ten, half); ten = word.Mul(ten, num(10)) {
		l = append(l, ten, word.Sub(ten, num(1)))
	}
	for _, x := range l {
		for _, s := range []string{word.Hex(x), word.Text(x)} {
			if y, e := word.Parse(s); y != x || e != api.OK {
				t.Errorf("Parse(%q): %x, %d; want %x", s, y, e, x)
			}
		}
		b := word.Bytes(x)
		if y, e := word.FromBytes(b[:]); y != x || e != api.OK {
			t.Errorf("FromBytes(%x): %x, %d", b, y, e)
		}
		holdShortest(t, word.Hex(x)[2:], x)
		holdShortest(t, word.Text(x), x)
	}
}

// holdShortest: a text of a number is the shortest of its form just if no 0 stands ahead of a digit.
func holdShortest(t *testing.T, digits string, x api.Word) {
	t.Helper()
	if digits == "" || digits[0] == '0' && (len(digits) > 1 || x != zero) {
		t.Errorf("%q is not the shortest of %x", digits, x)
	}
}
