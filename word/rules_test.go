package word_test

import (
	"bytes"
	"math"
	"slices"
	"strings"
	"testing"

	"vouch/api"
	"vouch/word"
)

// R1: no call panics, at any argument.
func TestNoCallPanics(t *testing.T) {
	d := draw(9)
	l := some(200)
	pick := func() api.Word { return l[d.next()%uint64(len(l))] }
	for range 3000 {
		a, b, c := pick(), pick(), pick()
		for code := -2; code < 0x24; code++ {
			word.Do(code, a, b, c)
			word.Do(code, a, zero, zero)
			word.Do(code, zero, b, zero)
		}
		word.Sum(a, b, c)
		word.Cmp(a, b)
		word.Bytes(a)
		word.Uint(a)
		word.ToAddress(a)
		word.Size(a)
		word.Hex(a)
		word.Text(a)
	}
	for _, code := range []int{math.MinInt, math.MinInt64, math.MaxInt} {
		word.Do(code, most, most, most)
	}
}

// R1: bytes and texts of any length and any kind.
func TestNoFormPanics(t *testing.T) {
	d := draw(10)
	for range 20000 {
		b := make([]byte, d.next()%100)
		for i := range b {
			b[i] = byte(d.next())
		}
		word.FromBytes(b)
		word.Parse(string(b))
		word.Parse("0x" + string(b))
	}
	long := strings.Repeat("1", 1<<20)
	word.Parse(long)
	word.Parse("0x" + long)
	word.FromBytes([]byte(long))
	word.FromBytes(nil)
	word.Sum(nil...)
}

// R2: a length is asked ahead of what is within, and beside an error all else is its zero value.
func TestLengthComesFirst(t *testing.T) {
	for _, s := range []string{strings.Repeat("z", 79), "0x" + strings.Repeat("1", 77), strings.Repeat("9", 79), strings.Repeat("\xff", 200), "-" + strings.Repeat("1", 78)} {
		if x, e := word.Parse(s); x != zero || e != api.ErrLong {
			t.Errorf("Parse(%q): %x, %d", s, x, e)
		}
	}
	for _, s := range []string{"5z", "0x5z", "5 5", strings.Repeat("9", 78), "0x" + strings.Repeat("5", 65)} {
		if x, e := word.Parse(s); x != zero || e != api.ErrNumber {
			t.Errorf("Parse(%q): %x, %d", s, x, e)
		}
	}
	if x, e := word.FromBytes(append(make([]byte, 32), 5)); x != zero || e != api.ErrLong {
		t.Errorf("FromBytes of 33 bytes: %x, %d", x, e)
	}
}

// R3: a list that is handed in is not changed, its spare room neither.
func TestListsStay(t *testing.T) {
	for n := range 41 {
		room := make([]byte, 64)
		for i := range room {
			room[i] = byte(i + 1)
		}
		kept := bytes.Clone(room)
		word.FromBytes(room[:n])
		if !bytes.Equal(room, kept) {
			t.Errorf("FromBytes of %d bytes has changed them, or what is behind", n)
		}
	}
	for n := range 9 {
		room := slices.Clone(edges()[20:36])
		kept := slices.Clone(room)
		word.Sum(room[:n]...)
		if !slices.Equal(room, kept) {
			t.Errorf("Sum of %d words has changed them, or what is behind", n)
		}
	}
}

// R3: what is answered shares nothing with what was handed in, nor with another answer.
func TestAnswersAreNew(t *testing.T) {
	list := []byte{1, 2, 3}
	x, _ := word.FromBytes(list)
	list[0] = 9
	if y, _ := word.FromBytes([]byte{1, 2, 3}); x != y {
		t.Error("a word has changed with the bytes that it was made of")
	}
	a, b := word.Bytes(x), word.Bytes(x)
	a[31] = 77
	if b != word.Bytes(x) {
		t.Error("two answers of Bytes share memory")
	}
}
