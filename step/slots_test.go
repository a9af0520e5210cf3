package step_test

import (
	"slices"
	"testing"

	"vouch/api"
)

// stores is code that stores words in the slot 1, one behind the other.
func stores(words ...uint64) []byte {
	var b []byte
	for _, x := range words {
		b = append(append(b, pushed(n(1), n(x))...), 0x55)
	}
	return b
}

// slotted is a frame of code over a world in which the slot 1 of Self has this word.
func slotted(original uint64, code ...[]byte) *frame {
	x := of(append(code, []byte{0})...).gas(100000)
	x.accounts[0].Code = least(0x00)
	if original != 0 {
		x.accounts[0].Slots = []api.Slot{{Key: n(1), Value: n(original)}}
	}
	return x
}

// SSTORE: every way of Store, cold and warm: what is paid, what is owed, what stands there.
func TestStores(t *testing.T) {
	for _, x := range []struct {
		original uint64
		words    []uint64
		cost     uint64 // beside the table's 100 and the coldness
		owed     int
	}{
		{0, []uint64{0}, 0, 0},
		{0, []uint64{1}, 19900, 0},
		{0, []uint64{1, 1}, 19900, 0},
		{0, []uint64{1, 2}, 19900, 0},
		{0, []uint64{1, 0}, 19900, 19900},
		{0, []uint64{1, 0, 2}, 2 * 19900, 19900},
		{5, []uint64{5}, 0, 0},
		{5, []uint64{6}, 2800, 0},
		{5, []uint64{0}, 2800, 4800},
		{5, []uint64{6, 7}, 2800, 0},
		{5, []uint64{6, 0}, 2800, 4800},
		{5, []uint64{6, 5}, 2800, 2800},
		{5, []uint64{0, 5}, 2800, 2800},
		{5, []uint64{0, 6}, 2800, 0},
		{5, []uint64{0, 6, 0}, 2800, 4800},
		{5, []uint64{6, 5, 6}, 2 * 2800, 2800},
		{5, []uint64{0, 0}, 2800, 4800},
	} {
		for _, cold := range []bool{true, false} {
			f := slotted(x.original, stores(x.words...))
			w := f.made(t)
			cost := uint64(106*len(x.words)) + x.cost
			if cold {
				cost += 2100
			} else {
				w.WarmSlot(self, n(1))
			}
			r := f.over(t, w)
			r.Go(many)
			got, _ := r.Ended()
			if got.Left != 100000-cost || w.Owed() != x.owed || w.Get(self, n(1)) != n(x.words[len(x.words)-1]) || w.Original(self, n(1)) != n(x.original) || !isWarmSlot(w, n(1)) {
				t.Errorf("%d, %v, cold %v: %+v, owed %d, %x there", x.original, x.words, cold, got, w.Owed(), w.Get(self, n(1)))
			}
		}
	}
}

// SSTORE at Sentry and one below it, cold and warm: what is left is asked behind the table's 100.
func TestSentry(t *testing.T) {
	for _, warm := range []bool{false, true} {
		for _, left := range []uint64{0, 2200, 2201} {
			f := slotted(5, stores(5)).gas(6 + 100 + left)
			w := f.made(t)
			if warm {
				w.WarmSlot(self, n(1))
			}
			r := f.over(t, w)
			r.Go(many)
			want := halted(api.HaltGas)
			if left == 2201 {
				want = api.Ending{Kind: api.EndStop, Left: 2201}
				if !warm {
					want.Left = 101
				}
			}
			if got, _ := r.Ended(); !alikeEnds(got, want) || isWarmSlot(w, n(1)) != (warm || left == 2201) {
				t.Errorf("warm %v, %d left: %+v, warm behind it: %v", warm, left, got, isWarmSlot(w, n(1)))
			}
		}
	}
}

// Where Store can't be paid nothing stands there and nothing is owed; the slot is warm.
func TestStoreTooDear(t *testing.T) {
	for _, x := range []struct {
		original, word, cost uint64
	}{{0, 1, 19900}, {5, 6, 2800}, {5, 0, 2800}} {
		for _, short := range []uint64{1, x.cost - 101} {
			w := slotted(x.original, stores(x.word)).gas(106+2100+x.cost-short).endsSo(t, halted(api.HaltGas))
			if w.Get(self, n(1)) != n(x.original) || w.Owed() != 0 || !isWarmSlot(w, n(1)) {
				t.Errorf("%+v: %x there, owed %d", x, w.Get(self, n(1)), w.Owed())
			}
		}
		slotted(x.original, stores(x.word)).gas(106+2100+x.cost).endsSo(t, api.Ending{Kind: api.EndStop})
	}
}

// SLOAD: cold and warm, by SLOAD and by SSTORE; of a slot that has a word and of one that has none; of Self alone.
func TestLoads(t *testing.T) {
	load := func(key api.Word) []byte { return append(pushed(key), 0x54) }
	leaves(t, of(load(n(1))).turn(func(x *frame) {
		x.accounts[0].Code, x.accounts[0].Slots = least(0), []api.Slot{{Key: n(1), Value: top}}
	}), top)
	leaves(t, of(load(n(1))).account(api.Account{Address: addr(11), Code: least(0), Slots: []api.Slot{{Key: n(1), Value: top}}}), n(0))
	slotted(5, load(n(1)), load(n(1))).endsSo(t, api.Ending{Kind: api.EndStop, Left: 100000 - 2*103 - 2000})
	slotted(5, load(n(1)), load(n(2))).endsSo(t, api.Ending{Kind: api.EndStop, Left: 100000 - 2*(103+2000)})
	slotted(5, load(power(64)), load(n(1))).endsSo(t, api.Ending{Kind: api.EndStop, Left: 100000 - 2*(103+2000)})
	slotted(5, load(n(1)), stores(5)).endsSo(t, api.Ending{Kind: api.EndStop, Left: 100000 - 103 - 2000 - 106})
	slotted(5, stores(5), load(n(1))).endsSo(t, api.Ending{Kind: api.EndStop, Left: 100000 - 106 - 2100 - 103})
	// a slot's being warm is not its address's
	w := slotted(5, load(n(1))).warm(self).endsSo(t, api.Ending{Kind: api.EndStop, Left: 100000 - 103 - 2000})
	if !isWarmSlot(w, n(1)) || isWarmSlot(w, n(2)) {
		t.Error("another slot is warm")
	}
	if w := slotted(5, load(n(1))).endsSo(t, api.Ending{Kind: api.EndStop, Left: 97897}); isWarm(w, self) {
		t.Error("Self is warm")
	}
	// what stands there is what was stored
	x := slotted(5, stores(0x1234), load(n(1)), raw("5f 52 6020 5f fd"))
	x.endsSo(t, api.Ending{Kind: api.EndRevert, Output: wordBytes(n(0x1234)), Left: 100000 - 106 - 2100 - 2800 - 103 - 2 - 6 - 3 - 2})
}

// A still frame loads, and pays for what is cold.
func TestLoadsInAStillFrame(t *testing.T) {
	slotted(5, pushed(n(1)), raw("54")).still().endsSo(t, api.Ending{Kind: api.EndStop, Left: 97897})
	slotted(5, pushed(n(1)), raw("5c")).still().endsSo(t, api.Ending{Kind: api.EndStop, Left: 99897})
}

// TLOAD and TSTORE: transient slots of Self, beside the others, neither cold nor warm.
func TestTransientSlots(t *testing.T) {
	store := func(key, x api.Word) []byte { return append(pushed(key, x), 0x5d) }
	load := func(key api.Word) []byte { return append(pushed(key), 0x5c) }
	leaves(t, of(store(n(1), top), load(n(1))), top)
	leaves(t, of(store(n(1), top), load(power(64))), n(0))
	leaves(t, of(store(n(1), top), store(n(1), n(0)), load(n(1))), n(0))
	leaves(t, slotted(5, nil).turn(func(x *frame) { x.c.Codes[0] = slices.Concat(store(n(1), n(9)), pushed(n(1)), raw("54")) }), n(5))
	leaves(t, slotted(5, nil).turn(func(x *frame) { x.c.Codes[0] = load(n(1)) }), n(0))
	x := of(store(n(1), top), load(n(1)), []byte{0})
	w := x.endsSo(t, api.Ending{Kind: api.EndStop, Left: 10000 - 106 - 103})
	if w.TGet(self, n(1)) != top || w.TGet(addr(11), n(1)) != n(0) || w.Get(self, n(1)) != n(0) || isWarmSlot(w, n(1)) || isWarm(w, self) || w.Owed() != 0 {
		t.Errorf("%s", seen(w))
	}
	// another's are not told
	other := of(load(n(1)))
	twin := other.made(t)
	twin.TSet(addr(11), n(1), n(4))
	r := of(load(n(1)), dump(1)).over(t, twin)
	r.Go(many)
	if got, _ := r.Ended(); !slices.Equal(got.Output, zero(32)) {
		t.Errorf("%x", got.Output)
	}
	// what another frame of Self has stored is
	twin.TSet(self, n(1), n(4))
	r = of(load(n(1)), dump(1)).over(t, twin)
	r.Go(many)
	if got, _ := r.Ended(); !slices.Equal(got.Output, wordBytes(n(4))) {
		t.Errorf("%x", got.Output)
	}
}
