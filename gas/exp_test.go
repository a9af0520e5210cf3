package gas_test

import (
	"testing"

	"vouch/api"
	"vouch/gas"
)

// 10.3: of every number of bytes the least word that needs so many, and the greatest.
func TestExpByBytes(t *testing.T) {
	if got := gas.Exp(api.Word{}); got != 0 {
		t.Errorf("Exp of 0: %d", got)
	}
	var greatest api.Word
	for k := range 32 {
		var least api.Word
		least[k/8] = 1 << (8 * (k % 8))
		greatest[k/8] |= 255 << (8 * (k % 8))
		want := 50 * uint64(k+1)
		if got := gas.Exp(least); got != want {
			t.Errorf("Exp of the least word of %d bytes: %d, not %d", k+1, got, want)
		}
		if got := gas.Exp(greatest); got != want {
			t.Errorf("Exp of the greatest word of %d bytes: %d, not %d", k+1, got, want)
		}
	}
	if got := gas.Exp(api.Word{0, 0, 0, 1 << 63}); got != 1600 {
		t.Errorf("Exp of 2^255: %d", got)
	}
}

// 10.3: each single bit, and drawn words, against plain numbers.
func TestExp(t *testing.T) {
	l := closeWords()
	for k := range 256 {
		var x api.Word
		x[k/64] = 1 << (k % 64)
		l = append(l, x)
	}
	d := draw(103)
	for range 20000 {
		l = append(l, d.word())
	}
	for _, x := range l {
		if got, want := number(gas.Exp(x)), expModel(x); got.Cmp(want) != 0 {
			t.Errorf("Exp(%x): %d, not %d", x, got, want)
		}
	}
}
