package word_test

import (
	"math"
	"math/big"
	"testing"

	"vouch/api"
	"vouch/word"
)

func asWord(holds bool) api.Word {
	if holds {
		return num(1)
	}
	return zero
}

// named is the table of 1.12.
func named(code int, a, b, c api.Word) api.Word {
	switch code {
	case 0x01:
		return word.Add(a, b)
	case 0x02:
		return word.Mul(a, b)
	case 0x03:
		return word.Sub(a, b)
	case 0x04:
		return word.Div(a, b)
	case 0x05:
		return word.SDiv(a, b)
	case 0x06:
		return word.Mod(a, b)
	case 0x07:
		return word.SMod(a, b)
	case 0x08:
		return word.AddMod(a, b, c)
	case 0x09:
		return word.MulMod(a, b, c)
	case 0x0a:
		return word.Exp(a, b)
	case 0x0b:
		return word.SignExtend(a, b)
	case 0x10:
		return asWord(word.Lt(a, b))
	case 0x11:
		return asWord(word.Gt(a, b))
	case 0x12:
		return asWord(word.SLt(a, b))
	case 0x13:
		return asWord(word.SGt(a, b))
	case 0x14:
		return asWord(word.Eq(a, b))
	case 0x15:
		return asWord(word.IsZero(a))
	case 0x16:
		return word.And(a, b)
	case 0x17:
		return word.Or(a, b)
	case 0x18:
		return word.Xor(a, b)
	case 0x19:
		return word.Not(a)
	case 0x1a:
		return word.Byte(a, b)
	case 0x1b:
		return word.Shl(a, b)
	case 0x1c:
		return word.Shr(a, b)
	case 0x1d:
		return word.Sar(a, b)
	}
	return word.Clz(a)
}

func isNamed(code int) bool {
	return 0x01 <= code && code <= 0x0b || 0x10 <= code && code <= 0x1e
}

// takes is how many words the instruction takes.
func takes(code int) int {
	switch code {
	case 0x15, 0x19, 0x1e:
		return 1
	case 0x08, 0x09:
		return 3
	}
	return 2
}

// 1.12
func TestDo(t *testing.T) {
	d := draw(6)
	l := some(100)
	pick := func() api.Word { return l[d.next()%uint64(len(l))] }
	for code := range 0x1f {
		if !isNamed(code) {
			continue
		}
		for i := range 400 {
			a, b, c := pick(), pick(), pick()
			if i%4 == 0 {
				a, b = num(d.next()%300), num(d.next()%300)
			}
			if i%10 == 1 {
				b = a
			}
			want := named(code, a, b, c)
			if y, ok := word.Do(code, a, b, c); !ok || y != want {
				t.Fatalf("Do(%#x, %x, %x, %x): %x, %v; want %x", code, a, b, c, y, ok, want)
			}
		}
	}
}

// 1.12: what it does not take is not looked at.
func TestDoLooksAtNoMore(t *testing.T) {
	for code := range 0x1f {
		if !isNamed(code) {
			continue
		}
		for _, other := range some(20) {
			b, c := num(2), num(7)
			if takes(code) < 3 {
				c = other
			}
			if takes(code) < 2 {
				b = other
			}
			want, _ := word.Do(code, num(10), num(2), num(7))
			if y, ok := word.Do(code, num(10), b, c); !ok || y != want {
				t.Errorf("Do(%#x) with %x, %x beside: %x, want %x", code, b, c, y, want)
			}
		}
	}
}

// 1.12: with any other code 0 and false.
func TestDoOfOtherCodes(t *testing.T) {
	codes := []int{math.MinInt, math.MinInt32, -256, -255, -2, -1, 0x101, 0x11e, 1<<16 + 1, 1<<32 + 1, math.MaxInt32, math.MaxInt}
	for code := -300; code < 600; code++ {
		codes = append(codes, code)
	}
	for _, code := range codes {
		y, ok := word.Do(code, num(10), num(2), num(7))
		if ok != isNamed(code) {
			t.Errorf("Do(%#x): %v", code, ok)
		}
		if !ok && y != zero {
			t.Errorf("Do(%#x): %x beside false", code, y)
		}
	}
}

// 1.13
func TestSum(t *testing.T) {
	d := draw(7)
	l := some(100)
	for range 20000 {
		list := make([]api.Word, d.next()%6)
		want := new(big.Int)
		for i := range list {
			list[i] = l[d.next()%uint64(len(l))]
			if d.next()%3 == 0 {
				list[i] = d.word()
			}
			want.Add(want, number(list[i]))
		}
		y, ok := word.Sum(list...)
		if ok != (want.Cmp(end) < 0) || ok && y != toWord(want) || !ok && y != zero {
			t.Fatalf("Sum(%x): %x, %v", list, y, ok)
		}
	}
}

func TestSumAtItsEnds(t *testing.T) {
	for _, x := range []struct {
		list []api.Word
		want api.Word
		ok   bool
	}{
		{nil, zero, true},
		{[]api.Word{}, zero, true},
		{[]api.Word{most}, most, true},
		{[]api.Word{half, word.Not(half)}, most, true},
		{[]api.Word{half, half}, zero, false},
		{[]api.Word{half, half, num(5)}, zero, false},
		{[]api.Word{num(1), most, zero}, zero, false},
		{[]api.Word{most, most, num(2), zero}, zero, false},
	} {
		if y, ok := word.Sum(x.list...); y != x.want || ok != x.ok {
			t.Errorf("Sum(%x): %x, %v", x.list, y, ok)
		}
	}
	many := make([]api.Word, 100000)
	for i := range many {
		many[i] = power(239) // 2^16 of them are 2^255
	}
	if y, ok := word.Sum(many...); !ok || y != toWord(new(big.Int).Mul(big.NewInt(100000), number(power(239)))) {
		t.Errorf("Sum of many: %x, %v", y, ok)
	}
}
