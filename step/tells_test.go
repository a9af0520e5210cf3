package step_test

import (
	"bytes"
	"slices"
	"testing"

	"vouch/api"
)

// leaves: code that leaves one word leaves this one.
func leaves(t *testing.T, x *frame, want api.Word) {
	t.Helper()
	x.c.Codes[0] = slices.Concat(x.c.Codes[0], dump(1))
	r, _, _ := x.gone(t)
	if got, _ := r.Ended(); got.Kind != api.EndRevert || !bytes.Equal(got.Output, wordBytes(want)) {
		t.Errorf("%v: %x (%+v), not %x", x, got.Output, got, wordBytes(want))
	}
}

// hashes are so many, each another one.
func hashes(count int) []api.Hash {
	var l []api.Hash
	for i := range count {
		l = append(l, api.Hash{0: 0xaa, 30: byte(i >> 8), 31: byte(i)})
	}
	return l
}

// hashWord is the i-th of them as a word.
func hashWord(i int) api.Word { return bytesWord(hashes(i + 1)[i][:]) }

// BLOCKHASH: of the blocks ahead of this one, the nearest first; at the first, the last and one past the last.
func TestBlockHash(t *testing.T) {
	for _, x := range []struct {
		number uint64
		hashes int
		block  api.Word
		want   api.Word
	}{
		{100, 256, n(99), hashWord(0)}, {100, 256, n(98), hashWord(1)}, {100, 256, n(0), hashWord(99)},
		{100, 256, n(100), n(0)}, {100, 256, n(101), n(0)}, {100, 256, top, n(0)}, {100, 256, api.Word{99, 1}, n(0)}, {100, 256, api.Word{99, 0, 0, 1}, n(0)},
		{1000, 256, n(999), hashWord(0)}, {1000, 256, n(744), hashWord(255)}, {1000, 256, n(743), n(0)}, {1000, 256, n(0), n(0)},
		{1000, 3, n(997), hashWord(2)}, {1000, 3, n(996), n(0)}, {1000, 0, n(999), n(0)},
		{0, 256, n(0), n(0)}, {0, 256, n(1<<64 - 1), n(0)}, {0, 256, top, n(0)}, {1, 256, n(0), hashWord(0)}, {1, 256, n(1), n(0)},
		{1<<64 - 1, 256, n(1<<64 - 2), hashWord(0)}, {1<<64 - 1, 256, n(1<<64 - 1), n(0)}, {1<<64 - 1, 256, n(1<<64 - 257), hashWord(255)}, {1<<64 - 1, 256, n(1<<64 - 258), n(0)}, {1<<64 - 1, 256, power(64), n(0)},
	} {
		leaves(t, of(pushed(x.block), raw("40")).block(api.Block{Number: x.number, Hashes: hashes(x.hashes)}), x.want)
	}
}

// BLOBHASH: at the first, the last and one past the last.
func TestBlobHash(t *testing.T) {
	for _, x := range []struct {
		blobs int
		at    api.Word
		want  api.Word
	}{
		{3, n(0), hashWord(0)}, {3, n(1), hashWord(1)}, {3, n(2), hashWord(2)}, {3, n(3), n(0)}, {3, n(1 << 63), n(0)}, {3, power(64), n(0)}, {3, api.Word{1, 1}, n(0)}, {3, top, n(0)}, {3, less(2), n(0)},
		{0, n(0), n(0)}, {1, n(0), hashWord(0)}, {1, n(1), n(0)}, {300, n(299), hashWord(299)}, {300, n(300), n(0)},
	} {
		leaves(t, of(pushed(x.at), raw("49")).blobs(hashes(x.blobs)...), x.want)
	}
}

// What the frame and its block say is told whole: each field by an instruction of its own, and by no other.
func TestFieldsAreTold(t *testing.T) {
	wide := api.Address(counted(0xe0, 20))
	big := bytesWord(counted(0xc1, 32))
	fields := map[byte]struct {
		turn func(f *api.Frame)
		want api.Word
	}{
		0x32: {func(f *api.Frame) { f.Origin = wide }, addressWord(wide)},
		0x33: {func(f *api.Frame) { f.Caller = wide }, addressWord(wide)},
		0x34: {func(f *api.Frame) { f.Value = big }, big},
		0x36: {func(f *api.Frame) { f.Input = zero(70000) }, n(70000)},
		0x3a: {func(f *api.Frame) { f.Price = big }, big},
		0x41: {func(f *api.Frame) { f.Block.Coinbase = wide }, addressWord(wide)},
		0x42: {func(f *api.Frame) { f.Block.Time = 1<<64 - 1 }, n(1<<64 - 1)},
		0x43: {func(f *api.Frame) { f.Block.Number = 1<<64 - 1 }, n(1<<64 - 1)},
		0x44: {func(f *api.Frame) { f.Block.Random = big }, big},
		0x45: {func(f *api.Frame) { f.Block.Limit = 1<<64 - 1 }, n(1<<64 - 1)},
		0x46: {func(f *api.Frame) { f.Block.Chain = big }, big},
		0x48: {func(f *api.Frame) { f.Block.Base = big }, big},
		0x4a: {func(f *api.Frame) { f.Block.BlobBase = big }, big},
	}
	for code := range fields {
		for turned, field := range fields {
			x := of([]byte{code})
			field.turn(&x.f)
			want := n(0)
			if code == turned {
				want = field.want
			}
			leaves(t, x, want)
		}
	}
	x := coded("30")
	x.f.Self = wide
	leaves(t, x, addressWord(wide))
}

// BALANCE and SELFBALANCE: of whom they say, as it is then; of nobody 0.
func TestBalances(t *testing.T) {
	high := api.Address{0: 0x80, 19: 1}
	with := func(code ...[]byte) *frame {
		return of(code...).account(api.Account{Address: addr(11), Balance: power(255)}).account(api.Account{Address: high, Balance: n(3)})
	}
	leaves(t, with(raw("47")), n(7))
	leaves(t, with(pushed(n(10)), raw("31")), n(7))
	leaves(t, with(pushed(n(11)), raw("31")), power(255))
	leaves(t, with(pushed(n(12)), raw("31")), n(0))
	leaves(t, with(pushed(addressWord(high)), raw("31")), n(3))
	for _, no := range []api.Word{power(160), top, power(255), {10, 0, 1 << 32}, {10, 0, 0, 1}} {
		w := with(pushed(no), raw("31 00")).endsSo(t, halted(api.HaltAddress))
		if isWarm(w, self) {
			t.Errorf("%x has warmed Self", no)
		}
	}
	last := addressWord(api.Address(bytes.Repeat([]byte{255}, 20)))
	leaves(t, of(pushed(last), raw("31")), n(0))
}

// An address is cold once; whatever warms it, and what another one does not.
func TestColdAddresses(t *testing.T) {
	again := func(code string) []byte { return slices.Concat(pushed(n(12)), raw(code)) }
	x := of(again("31 50"), again("31 50"), pushed(n(11)), raw("31 50 00"))
	x.endsSo(t, api.Ending{Kind: api.EndStop, Left: 10000 - 3*(3+100+2) - 2*2500})
	x = of(again("31 50"), []byte{0}).warm(addr(12))
	x.endsSo(t, api.Ending{Kind: api.EndStop, Left: 10000 - 105})
	// a call warms it too
	x = of(pushed(numbers(12, 0, 0)...), raw("fb 50"), again("31 50 00")).gas(7000)
	x.endsSo(t, api.Ending{Kind: api.EndStop, Left: 7000 - 9 - 2600 - 2 - 105})
	// SELFBALANCE and ADDRESS warm nothing
	_, w, _ := of(raw("47 30 00")).gone(t)
	if isWarm(w, self) {
		t.Error("Self is warm")
	}
}
