package op_test

import (
	"bytes"
	"math"
	"sync"
	"testing"

	"vouch/api"
	"vouch/op"
)

// far are numbers that are no codes, though some end like one.
func far() []int {
	out := []int{math.MinInt, math.MinInt + 1, math.MaxInt, math.MaxInt - 1, math.MinInt32, math.MaxInt32, math.MaxUint32}
	for shift := 8; shift < 63; shift++ {
		for _, low := range []int{0x00, 0x01, 0x60, 0xe6, 0xee, 0xf3} {
			out = append(out, 1<<shift|low, -1<<shift|low)
		}
	}
	return out
}

// R1: no call panics, at any argument.
func TestNoPanic(t *testing.T) {
	codes := far()
	for code := -20; code < 280; code++ {
		codes = append(codes, code)
	}
	for _, code := range codes {
		op.Of(code)
		for _, kind := range codes {
			op.Bars(code, kind)
		}
		op.Needs(code, nil)
		for many := 1; many < 40; many++ {
			for first := range 20 {
				imm := make([]byte, many)
				imm[0] = byte(first * 255 / 19)
				op.Needs(code, imm)
			}
		}
	}
	for a := range 256 {
		for b := range 256 {
			op.ByName(string([]byte{byte(a), byte(b)}))
		}
	}
}

// R3: the immediate bytes that are handed in stay as they were, and so does what lies behind them.
func TestImmediateBytesStay(t *testing.T) {
	for code := -2; code < 260; code++ {
		for many := range 36 {
			room := make([]byte, 64)
			for i := range room {
				room[i] = byte(i*7 + 1)
			}
			room[0] = 1
			before := bytes.Clone(room)
			op.Needs(code, room[:many])
			if !bytes.Equal(room, before) {
				t.Fatalf("Needs(%#x, %d bytes) has changed them", code, many)
			}
		}
	}
}

// R4: the same call answers the same again, whatever was asked in between, and beside others that ask.
func TestSameAgain(t *testing.T) {
	type answer struct {
		row     api.Op
		ok      bool
		in, out int
		needs   bool
		bars    [4]bool
	}
	ask := func(code int) answer {
		var a answer
		a.row, a.ok = op.Of(code)
		a.in, a.out, a.needs = op.Needs(code, []byte{byte(code)})
		for kind := range a.bars {
			a.bars[kind] = op.Bars(code, kind)
		}
		return a
	}
	first := map[int]answer{}
	for code := -10; code < 300; code++ {
		first[code] = ask(code)
	}
	var wait sync.WaitGroup
	for worker := range 4 {
		wait.Add(1)
		go func() {
			defer wait.Done()
			for i := range 5000 { // each in an order of its own
				code := i*(2*worker+11)%310 - 10
				if again := ask(code); again != first[code] {
					t.Errorf("%#x: %+v, then %+v", code, first[code], again)
				}
			}
			for row := range op.All() {
				if again, ok := op.ByName(row.Name); !ok || again != row || row != first[row.Code].row {
					t.Errorf("%s: %+v, then %+v", row.Name, row, again)
				}
			}
		}()
	}
	wait.Wait()
}
