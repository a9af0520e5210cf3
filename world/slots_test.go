package world_test

import (
	"testing"

	"vouch/api"
)

// 11.8, 11.9: slots and transient slots of keys that differ in one part alone, and of addresses that differ in one byte, are slots of their own.
func TestSlotsApart(t *testing.T) {
	w := made(t)
	word := func(i, j int) api.Word { return api.Word{uint64(i + 1), 0, uint64(j + 1), 9} }
	for i, a := range addresses() {
		for j, k := range keys() {
			w.Set(a, k, word(i, j))
			w.TSet(a, k, word(j, i))
		}
	}
	for i, a := range addresses() {
		for j, k := range keys() {
			if w.Get(a, k) != word(i, j) || w.TGet(a, k) != word(j, i) {
				t.Errorf("%x, %x: %x, transient %x", a, k, w.Get(a, k), w.TGet(a, k))
			}
			if w.Original(a, k) != n(0) {
				t.Errorf("%x, %x: original %x", a, k, w.Original(a, k))
			}
		}
	}
	w.Set(addresses()[1], keys()[2], n(0))
	w.TSet(addresses()[2], keys()[1], n(0))
	for i, a := range addresses() {
		for j, k := range keys() {
			if gone := i == 1 && j == 2; (w.Get(a, k) == n(0)) != gone {
				t.Errorf("%x, %x: %x", a, k, w.Get(a, k))
			}
			if gone := i == 2 && j == 1; (w.TGet(a, k) == n(0)) != gone {
				t.Errorf("%x, %x: transient %x", a, k, w.TGet(a, k))
			}
		}
	}
}

// 11.8, 11.9: a slot has the word that was set last, 0 and the greatest too; slots and transient slots have nothing to do with each other.
func TestSetAgain(t *testing.T) {
	a, k := full(1), n(3)
	w := made(t)
	for _, v := range []api.Word{n(1), n(1), n(0), n(0), below(1), {0, 1}, {0, 0, 0, 1}, n(0)} {
		w.Set(a, k, v)
		if w.Get(a, k) != v || w.TGet(a, k) != n(0) {
			t.Errorf("Set of %x: %x, transient %x", v, w.Get(a, k), w.TGet(a, k))
		}
	}
	for _, v := range []api.Word{n(1), n(1), n(0), n(0), below(1), {0, 1}, {0, 0, 0, 1}, n(0)} {
		w.TSet(a, k, v)
		if w.TGet(a, k) != v || w.Get(a, k) != n(0) || w.Original(a, k) != n(0) {
			t.Errorf("TSet of %x: %x, a slot of %x", v, w.TGet(a, k), w.Get(a, k))
		}
	}
}

// wantOriginals: those of the keys 0, 1, .. of the address of twenty bytes 1.
func wantOriginals(t *testing.T, row string, x asked, l ...uint64) {
	t.Helper()
	for k, v := range l {
		if got := x.Original(full(1), n(uint64(k))); got != n(v) {
			t.Errorf("%s: the original of %d is %x, not %d", row, k, got, v)
		}
	}
}

// 11.8: originals behind Set, behind Begin, behind Back and behind Forget.
func TestOriginals(t *testing.T) {
	a := full(1)
	w := made(t, api.Account{Address: a, Code: stop(0), Slots: []api.Slot{{Key: n(0), Value: n(5)}, {Key: n(1), Value: n(6)}}})
	wantOriginals(t, "New", w, 5, 6, 0, 0)
	w.Set(a, n(0), n(7))
	w.Set(a, n(0), n(8))
	w.Set(a, n(1), n(0))
	w.Set(a, n(2), n(9))
	wantOriginals(t, "Set", w, 5, 6, 0, 0)
	w.Set(a, n(0), n(5))
	w.Set(a, n(2), n(0))
	wantOriginals(t, "Set to the original", w, 5, 6, 0, 0)
	w.Set(a, n(2), n(9))
	w.Begin()
	wantOriginals(t, "Begin", w, 5, 0, 9, 0)
	w.Mark()
	w.Set(a, n(1), n(3))
	w.Set(a, n(3), n(4))
	w.Mark()
	w.Set(a, n(1), n(2))
	w.Set(a, n(0), n(0))
	wantOriginals(t, "Set behind marks", w, 5, 0, 9, 0)
	w.Back(1)
	wantOriginals(t, "Back(1)", w, 5, 0, 9, 0)
	w.Set(a, n(0), n(1))
	wantOriginals(t, "Set behind Back", w, 5, 0, 9, 0)
	w.Back(0)
	wantOriginals(t, "Back(0)", w, 5, 0, 9, 0)
	w.Set(a, n(3), n(8))
	w.Mark()
	w.Set(a, n(3), n(7))
	w.Forget(0)
	wantOriginals(t, "Forget", w, 5, 0, 9, 0)
	w.Begin()
	wantOriginals(t, "Begin again", w, 5, 0, 9, 7)
	w.Begin()
	wantOriginals(t, "Begin at once", w, 5, 0, 9, 7)
}

// 11.8: Begin behind marks: the words as they are then are the originals, and no mark leads back ahead of it.
func TestBeginBehindMarks(t *testing.T) {
	a := full(1)
	w := made(t)
	w.Mark()
	w.Set(a, n(0), n(1))
	w.Mark()
	w.Set(a, n(1), n(2))
	w.Begin()
	wantOriginals(t, "Begin", w, 1, 2)
	wantErrno(t, "Back(1)", w.Back(1), api.ErrMark)
	wantErrno(t, "Back(0)", w.Back(0), api.ErrMark)
	if w.Mark() != 0 {
		t.Error("the first mark behind Begin is not 0")
	}
	w.Set(a, n(0), n(5))
	wantErrno(t, "Back(0) behind Begin", w.Back(0), api.OK)
	if w.Get(a, n(0)) != n(1) || w.Get(a, n(1)) != n(2) {
		t.Error("Back led ahead of Begin")
	}
	wantOriginals(t, "Back", w, 1, 2)
}
