package op_test

import (
	"math"
	"testing"

	"vouch/api"
	"vouch/op"
)

// 4.5: every code, of the table or not, in both kinds, and in kinds that are neither.
func TestBars(t *testing.T) {
	codes := far()
	for code := -300; code < 600; code++ {
		codes = append(codes, code)
	}
	for _, code := range codes {
		if got, want := op.Bars(code, api.Init), code == 0x00 || code == 0xf3; got != want {
			t.Errorf("Bars(%#x, Init): %v", code, got)
		}
		if got, want := op.Bars(code, api.Runtime), code == 0xee; got != want {
			t.Errorf("Bars(%#x, Runtime): %v", code, got)
		}
		for _, kind := range []int{math.MinInt, -2, -1, 0, 3, 4, 257, 258, 1<<32 + 1, 1<<32 + 2, math.MaxInt} {
			if !op.Bars(code, kind) {
				t.Errorf("Bars(%#x, %d): false", code, kind)
			}
		}
	}
}
