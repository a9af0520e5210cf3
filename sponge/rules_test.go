package sponge_test

import (
	"bytes"
	"sync"
	"testing"

	"vouch/api"
	"vouch/sponge"
)

// roomy: b with spare room behind it, which holds 0xa5.
func roomy(b []byte, spare int) []byte {
	whole := append(append([]byte{}, b...), bytes.Repeat([]byte{0xa5}, spare)...)
	return whole[:len(b)]
}

// R1: no call panics: nothing, nil, empty, many pieces, calls in any order.
func TestNoPanic(t *testing.T) {
	sponge.Permute([25]uint64{})
	sponge.Sum()
	sponge.Sum(nil)
	sponge.Sum(nil, []byte{}, nil)
	sponge.Sum([][]byte{}...)
	sponge.Sum([][]byte(nil)...)
	sponge.Sum(make([][]byte, 1000)...)
	seed := draw(1)
	s := sponge.New()
	s.Reset()
	s.Sum()
	for range 5000 {
		switch seed.below(5) {
		case 0:
			s.Reset()
		case 1:
			s.Sum()
		case 2:
			s.Write(nil)
		default:
			s.Write(seed.bytes(seed.below(280)))
		}
	}
}

// R3: neither the bytes nor their spare room nor the list of pieces changes.
func TestNothingChanged(t *testing.T) {
	for _, n := range edges() {
		b := roomy(sevens(n), 300)
		other := roomy(sevens(5), 300)
		list := make([][]byte, 2, 4)
		list[0], list[1] = b, other
		list[:4][2], list[:4][3] = b[:n/2], nil
		sponge.Sum(list...)
		s := sponge.New()
		s.Write(b)
		s.Sum()
		s.Write(other)
		s.Sum()
		s.Reset()
		for _, x := range [][]byte{b, other} {
			if !bytes.Equal(x, sevens(len(x))) {
				t.Errorf("%d bytes: changed", n)
			}
			if !bytes.Equal(x[len(x):len(x)+300], bytes.Repeat([]byte{0xa5}, 300)) {
				t.Errorf("%d bytes: spare room changed", n)
			}
		}
		if len(list[0]) != n || len(list[1]) != 5 || len(list[:4][2]) != n/2 || list[:4][3] != nil {
			t.Errorf("%d bytes: the list of pieces changed", n)
		}
	}
}

// R3: bytes are not kept: written over behind the call, they change no later answer.
func TestNothingKept(t *testing.T) {
	for _, n := range edges() {
		b := sevens(n)
		want := hashBy(modelPermute, append(sevens(n), "abc"...))
		s := sponge.New()
		s.Write(b)
		clear(b)
		if got := s.Sum(); got != hashBy(modelPermute, sevens(n)) {
			t.Errorf("%d bytes, cleared: %x", n, got)
		}
		s.Reset()
		b = sevens(n)
		s.Write(b)
		clear(b)
		s.Write([]byte("abc"))
		if got := s.Sum(); got != want {
			t.Errorf("%d bytes, cleared, and abc: %x", n, got)
		}
		b = sevens(n)
		first := sponge.Sum(b)
		clear(b)
		if got := sponge.Sum(sevens(n)); got != first {
			t.Errorf("%d bytes, Sum: %x", n, got)
		}
	}
}

// R3: one room that is handed in again and again, filled anew each time.
func TestOneRoom(t *testing.T) {
	seed := draw(3)
	room := make([]byte, 50)
	var all []byte
	s := sponge.New()
	for range 40 {
		n := seed.below(len(room) + 1)
		copy(room, seed.bytes(n))
		all = append(all, room[:n]...)
		s.Write(room[:n])
	}
	if got := s.Sum(); got != hashBy(modelPermute, all) {
		t.Errorf("%x", got)
	}
}

// R3: an answer that is written over changes no later one.
func TestAnswersApart(t *testing.T) {
	s := sponge.New()
	s.Write([]byte("abc"))
	hash := s.Sum()
	clear(hash[:])
	if got := s.Sum(); got != unhex(t, ofAbc) {
		t.Errorf("%x", got)
	}
}

// R4: two sponges know nothing of each other, nor do sponges of Sum.
func TestApart(t *testing.T) {
	seed := draw(4)
	sponges := []*sponge.Sponge{sponge.New(), sponge.New(), sponge.New()}
	taken := make([][]byte, len(sponges))
	for range 600 {
		i := seed.below(len(sponges))
		if seed.below(20) == 0 {
			sponges[i].Reset()
			taken[i] = nil
		}
		b := seed.bytes(seed.below(150))
		sponges[i].Write(b)
		taken[i] = append(taken[i], b...)
		sponge.Sum(b)
		j := seed.below(len(sponges))
		if got := sponges[j].Sum(); got != hashBy(sponge.Permute, taken[j]) {
			t.Fatalf("sponge %d behind %d bytes: %x", j, len(taken[j]), got)
		}
	}
}

// R4: sponges side by side answer as one alone does.
func TestSideBySide(t *testing.T) {
	const workers = 8
	var got [workers]api.Hash
	var all sync.WaitGroup
	for i := range workers {
		all.Go(func() {
			s := sponge.New()
			for _, x := range sevens(1000 + i) {
				s.Write([]byte{x})
			}
			got[i] = s.Sum()
		})
	}
	all.Wait()
	for i := range workers {
		if got[i] != hashBy(modelPermute, sevens(1000+i)) {
			t.Errorf("worker %d: %x", i, got[i])
		}
	}
}
