package mach_test

import (
	"slices"
	"testing"

	"vouch/api"
	"vouch/mach"
)

// lens: below 0, at 0, at MaxStack and above it, more than once round the ring either way.
var lens = []int{-2500, -1025, -1024, -1023, -2, -1, 0, 1, 2, 3, 17, 1022, 1023, 1024, 1025, 1026, 2047, 2048, 2049, 5000}

// 9.1: a new stack has Len 0, no words, and 0 in every place.
func TestNewStackIsEmpty(t *testing.T) {
	s := mach.NewStack()
	if s.Len() != 0 || len(s.Words()) != 0 {
		t.Errorf("Len %d, Words %v", s.Len(), s.Words())
	}
	for n := -3000; n <= 3000; n++ {
		if s.Peek(n) != (api.Word{}) {
			t.Fatalf("Peek(%d): %v", n, s.Peek(n))
		}
	}
	for _, n := range numbers(api.MaxStack) {
		if s.Peek(n) != (api.Word{}) {
			t.Fatalf("Peek(%d): %v", n, s.Peek(n))
		}
	}
	holdStack(t, s, &stackModel{})
}

// 9.1, 9.2: Len goes below 0 and above MaxStack, one at a time, and tells what was put and taken.
func TestLenHasNoBounds(t *testing.T) {
	s := mach.NewStack()
	for i := 1; i <= 3000; i++ {
		s.Take()
		if s.Len() != -i {
			t.Fatalf("Len %d, not %d", s.Len(), -i)
		}
	}
	for i := -2999; i <= 3000; i++ {
		s.Put(odd(7))
		if s.Len() != i {
			t.Fatalf("Len %d, not %d", s.Len(), i)
		}
	}
}

// 9.1: word number -1 stands in place MaxStack - 1, where word number MaxStack - 1 stands too.
func TestBelowNothingIsTheLastPlace(t *testing.T) {
	s := mach.NewStack()
	s.Take()
	s.Put(odd(9))
	for range api.MaxStack - 1 {
		s.Put(odd(1))
	}
	s.Put(s.Peek(0))
	words := s.Words()
	if len(words) != api.MaxStack || words[api.MaxStack-1] != odd(9) || words[api.MaxStack-2] != odd(1) {
		t.Errorf("the last place: %v", words[api.MaxStack-2:])
	}
}

// 9.1: Words of none, of some, of MaxStack and of more: the topmost last.
func TestWords(t *testing.T) {
	for _, size := range lens {
		s, m := stackOf(size)
		got := s.Words()
		if want := min(max(size, 0), api.MaxStack); len(got) != want {
			t.Fatalf("of %d: %d words, not %d", size, len(got), want)
		}
		for i, x := range got {
			if number := size - len(got) + i; x != odd(number) {
				t.Fatalf("of %d: word number %d is %v", size, number, x)
			}
		}
		holdStack(t, s, m)
	}
}

// 9.2: Peek of any number, at any Len, is that word of the ring.
func TestPeek(t *testing.T) {
	for _, size := range lens {
		s, m := stackOf(size)
		for _, n := range numbers(size) {
			if s.Peek(n) != m.peek(n) {
				t.Errorf("of %d: Peek(%d) %v, not %v", size, n, s.Peek(n), m.peek(n))
			}
		}
		for n := -2100; n <= 2100; n++ {
			if s.Peek(n) != m.peek(n) {
				t.Fatalf("of %d: Peek(%d) %v, not %v", size, n, s.Peek(n), m.peek(n))
			}
		}
		holdStack(t, s, m)
	}
}

// 9.2: Put lays a word down as word number Len, over what stood in its place, and nothing else.
func TestPut(t *testing.T) {
	for _, size := range lens {
		s, m := stackOf(size)
		for i := range 3 {
			s.Put(odd(9000 + i))
			m.put(odd(9000 + i))
			holdStack(t, s, m)
		}
	}
}

// 9.2: Take answers the topmost word; what was there stays in its place.
func TestTake(t *testing.T) {
	for _, size := range lens {
		s, m := stackOf(size)
		for range 3 {
			if got, want := s.Take(), m.take(); got != want {
				t.Errorf("of %d: %v, not %v", size, got, want)
			}
			holdStack(t, s, m)
		}
	}
}

// 9.2: Again puts the n-th word, any n, as it was ahead of the call.
func TestAgain(t *testing.T) {
	for _, size := range lens {
		for _, n := range numbers(size) {
			s, m := stackOf(size)
			s.Again(n)
			m.put(m.peek(n))
			holdStack(t, s, m)
		}
	}
}

// 9.2: Turn lets any two words change places, and of two numbers with one place nothing.
func TestTurn(t *testing.T) {
	for _, size := range []int{-1025, -1, 0, 1, 3, 1023, 1024, 1025, 2049} {
		s, m := stackOf(size)
		for _, n := range numbers(size) {
			for _, k := range numbers(size) {
				s.Turn(n, k)
				m.turn(n, k)
				if s.Peek(n) != m.peek(n) || s.Peek(k) != m.peek(k) || s.Len() != size {
					t.Fatalf("of %d: behind Turn(%d, %d) %v %v, not %v %v", size, n, k, s.Peek(n), s.Peek(k), m.peek(n), m.peek(k))
				}
			}
			holdStack(t, s, m)
		}
	}
}

// 9.2: two numbers with one place, near and far, the same and not.
func TestTurnOfOnePlace(t *testing.T) {
	s, m := stackOf(5)
	for _, pair := range [][2]int{{1, 1}, {1, 1025}, {1025, 1}, {1, -1023}, {-1023, 1025}, {0, 1024}, {3, 3 + 1024*1000}, {-1 << 63, 0}, {1<<63 - 1, -1}, {-1 << 63, 1024}} {
		s.Turn(pair[0], pair[1])
		holdStack(t, s, m)
	}
}

// 9.2: a turn goes either way round.
func TestTurnIsEven(t *testing.T) {
	for _, pair := range [][2]int{{1, 2}, {2, 1}, {1, 5}, {5, 1}, {4, 1023}, {-1, 7}, {7, -1}} {
		a, _ := stackOf(5)
		b, _ := stackOf(5)
		a.Turn(pair[0], pair[1])
		b.Turn(pair[1], pair[0])
		for n := 1; n <= api.MaxStack; n++ {
			if a.Peek(n) != b.Peek(n) {
				t.Fatalf("Turn of %v: the %d-th", pair, n)
			}
		}
	}
}

// 9.1: Words, Len and Peek change nothing.
func TestTellingChangesNothing(t *testing.T) {
	for _, size := range lens {
		s, m := stackOf(size)
		for range 3 {
			first, second := s.Words(), s.Words()
			if !slices.Equal(first, second) || s.Len() != size || s.Peek(1) != s.Peek(1) {
				t.Errorf("of %d: told twice, unlike", size)
			}
			holdStack(t, s, m)
		}
	}
}
