package step_test

import (
	"bytes"
	"slices"
	"testing"

	"vouch/api"
)

// allMemory is what memory of MaxMemory bytes costs: 131072 words.
const allMemory = 3*131072 + 131072*131072/512

// reaching are the instructions that name a piece: of at and n with all other words, and what they cost beside the piece, of n bytes.
type reaching struct {
	code string
	with func(at, size api.Word) []api.Word
	cost func(size uint64) uint64
}

// sizedPieces are those whose n is a word.
func sizedPieces() []reaching {
	words := func(size uint64) uint64 { return (size + 31) / 32 }
	two := func(at, size api.Word) []api.Word { return []api.Word{at, size} }
	copied := func(at, size api.Word) []api.Word { return []api.Word{at, n(0), size} }
	return []reaching{
		{"20", two, func(size uint64) uint64 { return 30 + 6*words(size) }},
		{"37", copied, func(size uint64) uint64 { return 3 + 3*words(size) }},
		{"3e", copied, func(size uint64) uint64 { return 3 + 3*words(size) }},
		{"d3", copied, func(size uint64) uint64 { return 3 + 3*words(size) }},
		{"5e", copied, func(size uint64) uint64 { return 3 + 3*words(size) }},
		{"5e", func(at, size api.Word) []api.Word { return []api.Word{n(0), at, size} }, func(size uint64) uint64 { return 3 + 3*words(size) }},
		{"a0", two, func(size uint64) uint64 { return 375 + 8*size }},
		{"a2", func(at, size api.Word) []api.Word { return []api.Word{at, size, n(1), n(2)} }, func(size uint64) uint64 { return 1125 + 8*size }},
		{"f3", two, func(uint64) uint64 { return 0 }},
		{"fd", two, func(uint64) uint64 { return 0 }},
		{"f8", func(at, size api.Word) []api.Word { return []api.Word{n(10), at, size, n(0)} }, func(uint64) uint64 { return 2600 }},
		{"f9", func(at, size api.Word) []api.Word { return []api.Word{n(10), at, size} }, func(uint64) uint64 { return 2600 }},
		{"fb", func(at, size api.Word) []api.Word { return []api.Word{n(10), at, size} }, func(uint64) uint64 { return 2600 }},
		{"ec00", func(at, size api.Word) []api.Word { return []api.Word{n(0), n(0), at, size} }, func(uint64) uint64 { return 32006 }},
	}
}

// fixedPieces are those that name 32 bytes, or one.
func fixedPieces() []reaching {
	return []reaching{
		{"51", func(at, _ api.Word) []api.Word { return []api.Word{at} }, func(uint64) uint64 { return 3 }},
		{"52", func(at, _ api.Word) []api.Word { return []api.Word{at, n(1)} }, func(uint64) uint64 { return 3 }},
		{"53", func(at, _ api.Word) []api.Word { return []api.Word{at, n(1)} }, func(uint64) uint64 { return 3 }},
	}
}

// tried is the instruction with a piece, as a run that stands right behind it, with so much gas for it; false: it halted for gas.
func (x reaching) tried(t *testing.T, at, size api.Word, gas uint64) (api.Sight, bool) {
	t.Helper()
	words := x.with(at, size)
	r, _ := rich(pushed(words...), raw(x.code), []byte{0x00}).gas(uint64(3*len(words)) + gas).begun(t)
	r.Go(len(words) + 1)
	if got, ended := r.Ended(); ended && got.Kind == api.EndHalt {
		if got.Why != api.HaltGas {
			t.Errorf("%s of %x: %+v", x.code, words, got)
		}
		return api.Sight{}, false
	}
	return r.Sight(), true
}

// costs: with just so much gas it goes, with one less it does not; memory is so long behind it.
func (x reaching) costs(t *testing.T, at, size api.Word, gas uint64, memory int) {
	t.Helper()
	s, went := x.tried(t, at, size, gas)
	if !went || s.Left != 0 || s.State != api.Ended && s.Memory != memory {
		t.Errorf("%s of (%x, %x) with %d: %+v, %v", x.code, at, size, gas, s, went)
	}
	if gas == 0 {
		return
	}
	if s, went := x.tried(t, at, size, gas-1); went {
		t.Errorf("%s of (%x, %x) with %d: %+v", x.code, at, size, gas-1, s)
	}
}

// A piece of no bytes is nothing, at any place.
func TestPiecesOfNoBytes(t *testing.T) {
	for _, x := range sizedPieces() {
		for _, at := range []api.Word{n(0), n(1), n(api.MaxMemory), n(api.MaxMemory + 1), n(1 << 63), power(64), power(255), top} {
			x.costs(t, at, n(0), x.cost(0), 0)
		}
	}
}

// What a piece costs: memory up to its end, in words of 32 bytes.
func TestPiecesCost(t *testing.T) {
	for _, x := range sizedPieces() {
		for _, p := range []struct {
			at, size, memory uint64
			cost             uint64
		}{
			{0, 1, 32, 3}, {0, 32, 32, 3}, {31, 1, 32, 3}, {31, 2, 64, 6}, {0, 33, 64, 6}, {100, 1, 128, 12},
			{32 * 21, 32, 32 * 22, 66}, {32*22 - 1, 2, 32 * 23, 70}, {0, 32 * 32, 1024, 98}, {65535, 1, 65536, 14336},
		} {
			x.costs(t, n(p.at), n(p.size), x.cost(p.size)+p.cost, int(p.memory))
		}
	}
	for _, x := range fixedPieces()[:2] {
		x.costs(t, n(0), n(32), 3+3, 32)
		x.costs(t, n(1), n(32), 3+6, 64)
		x.costs(t, n(32*22), n(32), 3+70, 32*23)
	}
	fixedPieces()[2].costs(t, n(0), n(1), 3+3, 32)
	fixedPieces()[2].costs(t, n(31), n(1), 3+3, 32)
	fixedPieces()[2].costs(t, n(32), n(1), 3+6, 64)
}

// A piece up to MaxMemory, and one byte past it, with all the gas there is.
func TestPiecesAtMaxMemory(t *testing.T) {
	for _, x := range sizedPieces() {
		x.costs(t, n(api.MaxMemory-1), n(1), x.cost(1)+allMemory, api.MaxMemory)
		x.costs(t, n(api.MaxMemory-40), n(40), x.cost(40)+allMemory, api.MaxMemory)
		x.costs(t, n(0), n(api.MaxMemory), x.cost(api.MaxMemory)+allMemory, api.MaxMemory)
		for _, p := range [][2]api.Word{
			{n(api.MaxMemory), n(1)}, {n(api.MaxMemory - 1), n(2)}, {n(0), n(api.MaxMemory + 1)}, {n(1), n(api.MaxMemory)},
			{top, n(1)}, {n(1), top}, {top, top}, {top, n(2)}, {less(31), n(32)}, {power(64), n(1)}, {n(1), power(64)}, {n(0), power(255)},
			{n(1<<64 - 1), n(1)}, {n(1 << 63), n(1 << 63)}, {n(1), n(1<<64 - 1)}, {n(1 << 32), n(1)}, {n(0), n(1 << 32)}, {power(128), n(5)}, {power(192), power(192)},
		} {
			if s, went := x.tried(t, p[0], p[1], api.MaxGas-40); went {
				t.Errorf("%s of %x: %+v", x.code, p, s)
			}
		}
	}
	for i, x := range fixedPieces() {
		size := []uint64{32, 32, 1}[i]
		x.costs(t, n(api.MaxMemory-size), n(size), 3+allMemory, api.MaxMemory)
		for _, at := range []api.Word{n(api.MaxMemory - size + 1), n(api.MaxMemory), n(1<<64 - 1), n(1<<64 - 31), power(64), top, less(31), less(32)} {
			if s, went := x.tried(t, at, n(size), api.MaxGas-40); went {
				t.Errorf("%s of %x: %+v", x.code, at, s)
			}
		}
	}
}

// 12.10: memory costs by what is new alone; a piece within it costs nothing, and it never gets shorter.
func TestMemoryGrows(t *testing.T) {
	r, _ := of(pushed(n(0), n(1)), raw("53"), pushed(n(31), n(2)), raw("53"), pushed(n(32), n(3)), raw("53"), pushed(n(32*22), n(4)), raw("53"), pushed(n(0), n(32*23)), raw("20"), pushed(n(5)), raw("51 59"), pushed(n(32*23-31)), raw("51")).gas(100000).begun(t)
	left := uint64(100000)
	for i, x := range []struct {
		steps  int
		cost   uint64
		memory int
	}{{3, 6 + 3 + 3, 32}, {3, 6 + 3, 32}, {3, 6 + 3 + 3, 64}, {3, 6 + 3 + 64, 736}, {3, 6 + 30 + 6*23, 736}, {2, 3 + 3, 736}, {1, 2, 736}, {2, 3 + 3 + 3, 768}} {
		r.Go(x.steps)
		left -= x.cost
		if s := r.Sight(); s.Memory != x.memory || s.Left != left {
			t.Errorf("%d: %+v, not %d left of %d bytes", i, s, left, x.memory)
		}
	}
}

// New bytes of memory are 0; MLOAD, MSTORE and MSTORE8 read and write where they say, the highest byte first.
func TestMemoryWords(t *testing.T) {
	x := bytesWord(counted(1, 32))
	for _, row := range []struct {
		code []byte
		want []byte
	}{
		{slices.Concat(pushed(n(0), x), raw("52"), dump(0)), counted(1, 32)},
		{slices.Concat(pushed(n(3), x), raw("52"), dump(0)), slices.Concat(zero(3), counted(1, 32), zero(29))},
		{slices.Concat(pushed(n(3), x), raw("52"), pushed(n(0)), raw("51"), dump(1)), slices.Concat(zero(3), counted(1, 32), zero(29), zero(3), counted(1, 29))},
		{slices.Concat(pushed(n(40), x), raw("53"), dump(0)), slices.Concat(zero(40), []byte{32}, zero(23))},
		{slices.Concat(pushed(n(2), x), raw("52"), pushed(n(5), top), raw("53"), dump(0)), slices.Concat(zero(2), counted(1, 3), []byte{255}, counted(5, 28), zero(30))},
		{slices.Concat(pushed(n(64)), raw("51"), dump(1)), zero(128)},
	} {
		r, _, _ := of(row.code).gone(t)
		if got, _ := r.Ended(); got.Kind != api.EndRevert || !bytes.Equal(got.Output, row.want) {
			t.Errorf("%x: %x, not %x", row.code, got.Output, row.want)
		}
	}
}

// RETURN, REVERT, KECCAK256 and LOG take just the piece that they name.
func TestPiecesAreTaken(t *testing.T) {
	fill := slices.Concat(pushed(n(0), bytesWord(counted(1, 32))), raw("52"))
	x := of(fill, pushed(n(5), n(3)), raw("f3"))
	x.endsSo(t, api.Ending{Kind: api.EndReturn, Output: []byte{6, 7, 8}, Left: 10000 - 6 - 6 - 6})
	x = of(fill, pushed(n(30), n(4)), raw("fd"))
	x.endsSo(t, api.Ending{Kind: api.EndRevert, Output: []byte{31, 32, 0, 0}, Left: 10000 - 6 - 6 - 6 - 3})
	// the bytes 'abc' at 7
	x = of(pushed(n(0), bytesWord(slices.Concat(zero(7), []byte("abc"), zero(22)))), raw("52"), pushed(n(7), n(3)), raw("20"), pushed(n(0)), raw("52"), raw("6020 5f fd"))
	r, _, _ := x.gone(t)
	if got, _ := r.Ended(); !bytes.Equal(got.Output, raw("4e03657aea45a94fc7d47ba826c8d667c0d1e6e33a64a036ec44f58fa12d6c45")) {
		t.Errorf("%x", got.Output)
	}
	for topics := range 5 {
		named := numbers(11, 12, 13, 14)[:topics]
		_, w, _ := of(fill, pushed(append([]api.Word{n(5), n(3)}, named...)...), []byte{byte(0xa0 + topics), 0}).gone(t)
		logs := w.Logs()
		if len(logs) != 1 || logs[0].Address != self || !slices.Equal(logs[0].Topics, named) || !bytes.Equal(logs[0].Data, []byte{6, 7, 8}) {
			t.Errorf("LOG%d: %+v", topics, logs)
		}
	}
}

// Logs stand one behind the other, in the order in which they were told.
func TestLogsInOrder(t *testing.T) {
	_, w, _ := of(pushed(n(0), n(0), n(1)), raw("a1"), pushed(n(0), n(0)), raw("a0"), pushed(n(0), n(1), n(3), n(2)), raw("a2 00")).gone(t)
	logs := w.Logs()
	if len(logs) != 3 || !slices.Equal(logs[0].Topics, numbers(1)) || len(logs[1].Topics) != 0 || !slices.Equal(logs[2].Topics, numbers(3, 2)) || len(logs[2].Data) != 1 {
		t.Errorf("%+v", logs)
	}
}

// MCOPY moves the bytes as they were, over and under themselves.
func TestMemoryMoves(t *testing.T) {
	fill := slices.Concat(pushed(n(0), bytesWord(counted(1, 32))), raw("52"))
	for _, x := range []struct {
		to, from, size uint64
		want           []byte
	}{
		{2, 0, 4, slices.Concat([]byte{1, 2, 1, 2, 3, 4}, counted(7, 26))},
		{0, 2, 4, slices.Concat([]byte{3, 4, 5, 6}, counted(5, 28))},
		{5, 5, 7, counted(1, 32)},
		{31, 0, 2, slices.Concat(counted(1, 31), []byte{1, 2}, zero(31))},
		{0, 31, 2, slices.Concat([]byte{32, 0}, counted(3, 30), zero(32))},
		{0, 64, 1, slices.Concat([]byte{0}, counted(2, 31), zero(64))},
		{9, 9, 0, counted(1, 32)},
	} {
		r, _, _ := of(fill, pushed(n(x.to), n(x.from), n(x.size)), raw("5e"), dump(0)).gone(t)
		if got, _ := r.Ended(); !bytes.Equal(got.Output, x.want) {
			t.Errorf("MCOPY %d %d %d: %x, not %x", x.to, x.from, x.size, got.Output, x.want)
		}
	}
}

// sourced is the two instructions that take rows of the same bytes: one loads 32, one copies.
type sourced struct{ load, copied byte }

// rowFrame is how code ends in a frame whose Input, return data and data are these bytes (the return data come of a call ahead of it).
func rowFrame(t *testing.T, b []byte, code ...[]byte) api.Ending {
	t.Helper()
	call := slices.Concat(pushed(numbers(10, 0, 0, 0)...), raw("f8 50"))
	x := of(append([][]byte{call}, code...)...).input(b).data(b).gas(100000)
	r, _ := x.begun(t)
	r.Go(many)
	asked, ok := r.Asked()
	if !ok {
		t.Fatalf("%+v", r.Sight())
	}
	r.Give(api.Reply{Status: api.TookBack, Output: b, Left: asked.Gas})
	r.Go(many)
	got, _ := r.Ended()
	return got
}

// A row that begins within its bytes, at their end, behind it, and at a place that is no int; loaded, and copied.
func TestRows(t *testing.T) {
	b := counted(0x11, 40)
	within := func(i, size int) []byte { return slices.Concat(b, zero(100))[i : i+size] }
	for _, x := range []sourced{{0x35, 0x37}, {0xf7, 0x3e}, {0xd0, 0xd3}} {
		for _, i := range []int{0, 1, 7, 8, 9, 38, 39, 40, 41, 72} {
			got := rowFrame(t, b, pushed(n(uint64(i))), []byte{x.load}, dump(1))
			if !bytes.Equal(got.Output, within(i, 32)) {
				t.Errorf("%x at %d: %x", x.load, i, got.Output)
			}
			for _, size := range []int{1, 32, 45} {
				got := rowFrame(t, b, pushed(n(3), n(uint64(i)), n(uint64(size))), []byte{x.copied}, dump(0))
				if want := slices.Concat(zero(3), within(i, size), zero(93))[:len(got.Output)]; !bytes.Equal(got.Output, want) || len(want) < 3+size {
					t.Errorf("%x at %d, %d bytes: %x", x.copied, i, size, got.Output)
				}
			}
		}
		for _, i := range []api.Word{n(1 << 31), n(1 << 32), n(1 << 63), n(1<<64 - 1), n(1<<64 - 32), power(64), {1, 1}, power(128), power(255), top, less(31), less(8)} {
			got := rowFrame(t, b, pushed(i), []byte{x.load}, dump(1))
			if !bytes.Equal(got.Output, zero(32)) {
				t.Errorf("%x at %x: %x", x.load, i, got.Output)
			}
			got = rowFrame(t, b, pushed(n(0), bytesWord(counted(1, 32))), raw("52"), pushed(n(3), i, n(4)), []byte{x.copied}, dump(0))
			if !bytes.Equal(got.Output, slices.Concat(counted(1, 3), zero(4), counted(8, 25))) {
				t.Errorf("%x at %x: %x", x.copied, i, got.Output)
			}
		}
		if got := rowFrame(t, nil, pushed(n(0)), []byte{x.load}, dump(1)); !bytes.Equal(got.Output, zero(32)) {
			t.Errorf("%x of no byte: %x", x.load, got.Output)
		}
	}
}

// The sizes that are told are those of the rows; of an open container the data at hand.
func TestSizes(t *testing.T) {
	for _, size := range []int{0, 1, 33, 300} {
		got := rowFrame(t, zero(size), raw("36 3d d2"), dump(3))
		want := bytes.Repeat(wordBytes(n(uint64(size))), 3)
		if !bytes.Equal(got.Output, want) {
			t.Errorf("of %d: %x", size, got.Output)
		}
	}
}

// DATALOADN: its 32 bytes lie within the data, up to the last place where they do; FaultData one past it, and where the data at hand are shorter than is declared.
func TestDataWords(t *testing.T) {
	b := counted(1, 40)
	for _, at := range []int{0, 1, 7, 8} {
		got := rowFrame(t, b, []byte{0xd1, 0, byte(at)}, dump(1))
		if !bytes.Equal(got.Output, b[at:at+32]) {
			t.Errorf("at %d: %x", at, got.Output)
		}
	}
	for _, imm := range []string{"0009", "0028", "0029", "0100", "8000", "ffff"} {
		coded("d1"+imm+"00").data(b).ends(t, 1, 0, faulted(api.FaultData))
	}
	long := make([]byte, 65535)
	long[65534] = 5
	x := coded("d1 ffdf 5f 52 6020 5f f3").data(long)
	x.endsSo(t, api.Ending{Kind: api.EndReturn, Output: wordBytes(n(5)), Left: 10000 - 3 - 2 - 6 - 3 - 2})
	coded("d1 ffe0 00").data(long).ends(t, 1, 0, faulted(api.FaultData))
	open := coded("d1 0000 00").data(b[:31])
	open.c.Size = 32
	open.ends(t, 1, 0, faulted(api.FaultData))
}
