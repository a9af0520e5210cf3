package sponge_test

import (
	"testing"

	"vouch/api"
	"vouch/sponge"
)

const (
	ofNothing = "c5d2460186f7233c927e7db2dcc703c0e500b653ca82273b7bfad8045d85a470"
	ofAbc     = "4e03657aea45a94fc7d47ba826c8d667c0d1e6e33a64a036ec44f58fa12d6c45"
)

// The chapter's table 'Examples', row by row.
func TestExamples(t *testing.T) {
	nothing, abc := unhex(t, ofNothing), unhex(t, ofAbc)
	lanes := sponge.Permute([25]uint64{})
	if lanes[0] != 0xf1258f7940e1dde7 || lanes[1] != 0x84d5ccf933c0478a {
		t.Errorf("Permute: %016x %016x", lanes[0], lanes[1])
	}
	if got := sponge.Sum(); got != nothing {
		t.Errorf("Sum(): %x", got)
	}
	if got := sponge.Sum(nil); got != nothing {
		t.Errorf("Sum(nil): %x", got)
	}
	if got := sponge.Sum([]byte(""), []byte("")); got != nothing {
		t.Errorf(`Sum("", ""): %x`, got)
	}
	if got := sponge.Sum([]byte("abc")); got != abc {
		t.Errorf(`Sum("abc"): %x`, got)
	}
	if got := sponge.Sum([]byte("a"), []byte(""), []byte("bc")); got != abc {
		t.Errorf(`Sum("a", "", "bc"): %x`, got)
	}
	s := sponge.New()
	s.Write([]byte("a"))
	if got := s.Sum(); got != sponge.Sum([]byte("a")) || got == nothing || got == abc {
		t.Errorf("behind a: %x", got)
	}
	s.Write([]byte("bc"))
	if got := s.Sum(); got != abc {
		t.Errorf("behind a, bc: %x", got)
	}
	s.Reset()
	if got := s.Sum(); got != nothing {
		t.Errorf("behind Reset: %x", got)
	}
}

// 2.3, 2.4: hashes that are known, around the edges of 8 and of 136 bytes.
func TestSumKnown(t *testing.T) {
	for _, x := range []struct {
		n    int
		want string
	}{
		{0, ofNothing},
		{1, "bc36789e7a1e281436464229828f817d6612f7b477d66591ff96a9e064bcc98a"},
		{7, "1586228c35ffc29412852c4c2a477eb4ed36118f629e9387dac9d1a18f789fe4"},
		{8, "859accfe2b4b0bf279503c72f528cd48ddfa470f467b40f77411ee6bab13a4ef"},
		{9, "51a741db225adb218854de9d0b6d3c340a9837e22096f0f2175753a760bd9411"},
		{134, "c5b44954afefc88803399256a6a2804367cb9b7d96416a9a975d964488c32208"},
		{135, "154f5dc27520a599653a2b10189cf53f5ce03b7c594d11fd98f67012ea304b6c"},
		{136, "81e7ecb492d033f1692e770a6eb874e70aac45ec10da93483fc8d3537805c097"},
		{137, "a595973359b39ba1fec5cf8f40710c5a213e76281dd4f174f1ea83106ee7759b"},
		{271, "f0f79e1b757cfc6a5cb0263d2636afe57489bb73ab924b875b896868a9fb3cf4"},
		{272, "99d5a295c114ab3f94028d25825ea798399dacfc613f0193fb32c3c4973f1777"},
		{273, "27005ba9916961e2ddd78d739ee52ff4b2a2e90b40fa4730516d8f1ee4bf25cb"},
		{407, "a229df22304bc5a416ab6d2fd0d5ff1efd89178e6eaaf3c5c6b4196a7783da30"},
		{408, "3c4dbe53112698aabf59951115891ffd6d552805ba5d671be63e344d70d8063c"},
		{409, "1fa9f584387d11b4366939678efa53502d7382da4a6b04a572c7a3ae81119fd3"},
		{1000, "82bc59cea7b5eac6d5e84cfabd1450ecba233bc6c0b375bda57dd7848a088ce6"},
	} {
		want := unhex(t, x.want)
		if got := sponge.Sum(sevens(x.n)); got != want {
			t.Errorf("%d bytes: %x", x.n, got)
		}
		if got := written(sevens(x.n)); got != want {
			t.Errorf("%d bytes by a sponge: %x", x.n, got)
		}
	}
}

// 2.3, 2.4: the model's hash, of each length up to three blocks and of other bytes than above.
func TestSumModel(t *testing.T) {
	seed := draw(24)
	b := seed.bytes(3*136 + 2)
	for n := range len(b) + 1 {
		want := hashBy(modelPermute, b[:n])
		if got := sponge.Sum(b[:n]); got != want {
			t.Fatalf("%d bytes: %x, not %x", n, got, want)
		}
		if got := written(b[:n]); got != want {
			t.Fatalf("%d bytes by a sponge: %x, not %x", n, got, want)
		}
	}
}

// 2.3, 2.4: bytes that look like padding are still bytes; each place counts.
func TestSumNotPadding(t *testing.T) {
	for _, n := range edges() {
		rows := [][]byte{make([]byte, n), make([]byte, n+1), append(make([]byte, n), 0x01), append(make([]byte, n), 0x80), append(make([]byte, n), 0x81), padded(make([]byte, n))}
		seen := map[api.Hash]int{}
		for i, b := range rows {
			got := sponge.Sum(b)
			if got != hashBy(modelPermute, b) {
				t.Errorf("%d zeros, row %d: %x", n, i, got)
			}
			if j, ok := seen[got]; ok && string(rows[j]) != string(b) {
				t.Errorf("%d zeros: rows %d and %d have one hash", n, i, j)
			}
			seen[got] = i
		}
	}
}

// 2.4: a single bit at each place of two blocks.
func TestSumSingleBits(t *testing.T) {
	for at := range 272 {
		b := make([]byte, 272)
		b[at] = 1 << (at % 8)
		if got := sponge.Sum(b); got != hashBy(modelPermute, b) {
			t.Fatalf("bit at byte %d: %x", at, got)
		}
	}
}

// 2.7: Sum is what Permute makes of the padded bytes.
func TestSumIsPermuted(t *testing.T) {
	seed := draw(29)
	for range 200 {
		b := seed.bytes(seed.below(1500))
		if got := sponge.Sum(b); got != hashBy(sponge.Permute, b) {
			t.Fatalf("%d bytes: %x", len(b), got)
		}
	}
}

// 2.5: Sum changes nothing, at whatever length; more may be written behind.
func TestSumAgain(t *testing.T) {
	b := sevens(1000)
	for _, n := range edges() {
		s := sponge.New()
		s.Write(b[:n])
		want := hashBy(modelPermute, b[:n])
		for k := range 3 {
			if got := s.Sum(); got != want {
				t.Errorf("%d bytes, asked %d times: %x", n, k+1, got)
			}
		}
		s.Write(b[n:])
		if s.Sum() != hashBy(modelPermute, b) {
			t.Errorf("%d bytes, asked, and more", n)
		}
	}
}

// 2.5: behind Reset nothing is left, at whatever length; it may go on.
func TestReset(t *testing.T) {
	b := sevens(1000)
	nothing := unhex(t, ofNothing)
	for _, n := range edges() {
		s := sponge.New()
		s.Write(b[:n])
		s.Reset()
		if got := s.Sum(); got != nothing {
			t.Errorf("%d bytes, Reset: %x", n, got)
		}
		s.Write(b[:300])
		if got := s.Sum(); got != hashBy(modelPermute, b[:300]) {
			t.Errorf("%d bytes, Reset, 300 bytes: %x", n, got)
		}
		s.Reset()
		s.Reset()
		if got := s.Sum(); got != nothing {
			t.Errorf("%d bytes, Reset twice: %x", n, got)
		}
	}
}

// 2.5: a new one has taken nothing, whatever stood before it.
func TestNew(t *testing.T) {
	old := sponge.New()
	old.Write(sevens(137))
	s := sponge.New()
	if got := s.Sum(); got != unhex(t, ofNothing) {
		t.Errorf("a new one: %x", got)
	}
}

// 2.6: two pieces, cut at each place around the edges.
func TestTwoPieces(t *testing.T) {
	b := sevens(300)
	for n := range 301 {
		want := hashBy(modelPermute, b[:n])
		for cut := range n + 1 {
			if got := sponge.Sum(b[:cut], b[cut:n]); got != want {
				t.Fatalf("%d bytes, cut at %d: %x", n, cut, got)
			}
		}
	}
}

// 2.6: byte by byte, asked between each, with empty pieces between.
func TestByteByByte(t *testing.T) {
	b := sevens(420)
	s := sponge.New()
	for n := range b {
		if got := s.Sum(); got != hashBy(modelPermute, b[:n]) {
			t.Fatalf("%d bytes: %x", n, got)
		}
		s.Write(nil)
		s.Write(b[n : n+1])
		s.Write([]byte{})
	}
	if s.Sum() != hashBy(modelPermute, b) {
		t.Error("all of them")
	}
}

// 2.6: pieces of any lengths, to Sum and to a sponge, asked between or not.
func TestAnyPieces(t *testing.T) {
	seed := draw(26)
	for range 300 {
		b := seed.bytes(seed.below(2000))
		s := sponge.New()
		var pieces [][]byte
		for at := 0; at < len(b); {
			n := min(seed.below(290), len(b)-at)
			pieces = append(pieces, b[at:at+n])
			s.Write(b[at : at+n])
			at += n
			if seed.below(2) == 0 && s.Sum() != sponge.Sum(b[:at]) {
				t.Fatalf("%d of %d bytes", at, len(b))
			}
		}
		want := hashBy(sponge.Permute, b)
		if got := sponge.Sum(pieces...); got != want {
			t.Fatalf("%d bytes in %d pieces: %x", len(b), len(pieces), got)
		}
		if got := s.Sum(); got != want {
			t.Fatalf("%d bytes in %d pieces by a sponge: %x", len(b), len(pieces), got)
		}
	}
}

// 2.6: empty pieces, nil ones too, among and around the others.
func TestEmptyPieces(t *testing.T) {
	for _, n := range edges() {
		b := sevens(n)
		want := hashBy(modelPermute, b)
		for i, pieces := range [][][]byte{{nil, b}, {b, nil}, {{}, b, {}}, {nil, nil, b[:n/2], {}, nil, b[n/2:], nil}} {
			if got := sponge.Sum(pieces...); got != want {
				t.Errorf("%d bytes, row %d: %x", n, i, got)
			}
		}
	}
}

// 2.4, 2.6: many bytes at once are the same as one behind the other.
func TestLong(t *testing.T) {
	seed := draw(25)
	b := seed.bytes(1<<18 + 5)
	want := hashBy(sponge.Permute, b)
	if sponge.Sum(b) != want || written(b) != want {
		t.Error("at once")
	}
	var pieces [][]byte
	for i := range b {
		pieces = append(pieces, b[i:i+1])
	}
	if sponge.Sum(pieces...) != want {
		t.Error("in as many pieces as bytes")
	}
}
