package gas_test

import (
	"testing"

	"vouch/api"
	"vouch/gas"
)

func holdStore(t *testing.T, original, was, is api.Word, cost uint64, refund int) {
	t.Helper()
	if c, r := gas.Store(original, was, is); c != cost || r != refund {
		t.Errorf("Store(%x, %x, %x): %d, %d, not %d, %d", original, was, is, c, r, cost, refund)
	}
}

// 10.4: every row of the table, and every sum of its last row, of any words a, b, c that are not 0 and not the same.
func TestStoreRowByRow(t *testing.T) {
	l := closeWords()[1:]
	var none api.Word
	for i, a := range l {
		b, c := l[(i+1)%len(l)], l[(i+5)%len(l)]
		for _, x := range []struct {
			original, was, is api.Word
			cost              uint64
			refund            int
		}{
			{none, none, none, 0, 0}, {none, a, a, 0, 0}, {a, none, none, 0, 0}, {a, a, a, 0, 0}, {a, b, b, 0, 0}, // is equals was
			{none, none, a, 19900, 0}, // was equals original: 0
			{a, a, none, 2800, 4800},  // was equals original
			{a, a, b, 2800, 0},
			{none, a, none, 0, 19900}, // another word stands there, and 0 stood at first
			{none, a, b, 0, 0},
			{a, none, a, 0, -4800 + 2800}, // another one stands there, and a word stood at first
			{a, none, b, 0, -4800},
			{a, b, none, 0, 4800},
			{a, b, a, 0, 2800},
			{a, b, c, 0, 0},
		} {
			holdStore(t, x.original, x.was, x.is, x.cost, x.refund)
		}
	}
}

// 10.4: all threes of words of which many differ in one part of 64 bits alone.
func TestStoreOfCloseWords(t *testing.T) {
	l := closeWords()
	for _, original := range l {
		for _, was := range l {
			for _, is := range l {
				cost, refund := storeModel(original, was, is)
				holdStore(t, original, was, is, cost, refund)
			}
		}
	}
}

// 10.4: drawn words, each time of a few.
func TestStoreOfDrawnWords(t *testing.T) {
	d := draw(104)
	for range 20000 {
		few := []api.Word{{}, d.word(), d.word()}
		original, was, is := pick(&d, few), pick(&d, few), pick(&d, few)
		cost, refund := storeModel(original, was, is)
		holdStore(t, original, was, is, cost, refund)
	}
}
