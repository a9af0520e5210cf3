package mach_test

import (
	"bytes"
	"math"
	"slices"
	"sync"
	"testing"

	"vouch/api"
	"vouch/mach"
)

// R1: no call panics, at any argument, on stacks, return stacks and memories in any state.
func TestNoPanic(t *testing.T) {
	d := draw(1)
	all := numbers(api.MaxMemory)
	lists := [][]byte{nil, {}, {1}, make([]byte, 31), make([]byte, 33), make([]byte, 5000)}
	words := wordsAround()
	s, r, x := mach.NewStack(), mach.NewReturns(), mach.NewMemory()
	calls := []func(n, k, l int, w, v api.Word, b []byte){
		func(n, k, l int, w, v api.Word, b []byte) { s.Push(w); s.Put(w); s.Words() },
		func(n, k, l int, w, v api.Word, b []byte) { s.Pop(); s.Take(); s.Take() },
		func(n, k, l int, w, v api.Word, b []byte) { s.At(n); s.Peek(n); s.Len() },
		func(n, k, l int, w, v api.Word, b []byte) { s.Dup(n); s.Again(k); s.Swap(n) },
		func(n, k, l int, w, v api.Word, b []byte) { s.Exchange(n, k); s.Turn(n, k) },
		func(n, k, l int, w, v api.Word, b []byte) { r.Push(api.Place{Section: n, At: k}); r.Len() },
		func(n, k, l int, w, v api.Word, b []byte) { r.Put(api.Place{Section: n, At: k}) },
		func(n, k, l int, w, v api.Word, b []byte) { r.Pop(); r.Take() },
		func(n, k, l int, w, v api.Word, b []byte) { x.Reach(w, v); x.Len() },
		func(n, k, l int, w, v api.Word, b []byte) { x.Grow(min(n, 1<<16)); x.Grow(max(n, api.MaxMemory+1)) },
		func(n, k, l int, w, v api.Word, b []byte) { x.Load(n); x.Store(n, w); x.Store8(n, byte(k)) },
		func(n, k, l int, w, v api.Word, b []byte) { x.Read(n, k); x.Write(n, b) },
		func(n, k, l int, w, v api.Word, b []byte) { x.Move(n, k, l) },
		func(n, k, l int, w, v api.Word, b []byte) { mach.Row(b, w, min(n, 1<<16)) },
		func(n, k, l int, w, v api.Word, b []byte) { mach.Row(b, v, max(n, api.MaxMemory+1)) },
	}
	for range 60000 {
		w, v := words[d.below(len(words))], words[d.below(len(words))]
		calls[d.below(len(calls))](d.of(all), d.of(all), d.of(all), w, v, lists[d.below(len(lists))])
	}
}

// spared is the bytes of b with spare room behind them in which no byte is 0; the whole of it is answered too.
func spared(b []byte) (list, whole []byte) {
	whole = append(slices.Clone(b), bytes.Repeat([]byte{0xa5}, 70)...)
	return whole[:len(b)], whole
}

// spoil writes over a list that was answered, its spare room too.
func spoil[T any](l []T, with T) {
	l = l[:cap(l)]
	for i := range l {
		l[i] = with
	}
}

// R3, 9.13: Write keeps nothing of what it is handed, and changes nothing of it, spare room neither.
func TestWriteKeepsNothing(t *testing.T) {
	for _, n := range []int{1, 31, 32, 64} {
		b, whole := spared(filled(n))
		was := slices.Clone(whole)
		x, m := memoryOf(64)
		wantErrno(t, "Write", x.Write(0, b), api.OK)
		m.write(0, b)
		wantErrno(t, "Move", x.Move(1, 0, 63), api.OK)
		m.move(1, 0, 63)
		wantErrno(t, "Store8", x.Store8(0, 0xee), api.OK)
		m.write(0, []byte{0xee})
		wantErrno(t, "Grow", x.Grow(4096), api.OK)
		m.grow(4096)
		if !slices.Equal(whole, was) {
			t.Errorf("%d bytes: what was handed in has changed", n)
		}
		spoil(whole, 0x77)
		holdMemory(t, x, m)
		x.Store(0, odd(3))
		if slices.ContainsFunc(whole, func(b byte) bool { return b != 0x77 }) {
			t.Errorf("%d bytes: what was handed in is kept", n)
		}
	}
}

// R3: a Write that is refused changes nothing of what it is handed either.
func TestRefusedWriteKeepsNothing(t *testing.T) {
	b, whole := spared(filled(40))
	was := slices.Clone(whole)
	x, m := memoryOf(32)
	for _, at := range []int{-1, 0, 5, 32, math.MaxInt} {
		if x.Write(at, b) == api.OK {
			t.Errorf("at %d: not refused", at)
		}
	}
	if !slices.Equal(whole, was) {
		t.Error("what was handed in has changed")
	}
	holdMemory(t, x, m)
}

// R3, 9.13: what Read answers is the caller's own, spare room too; two answers share nothing.
func TestReadIsTheCallers(t *testing.T) {
	for _, piece := range [][2]int{{0, 96}, {0, 1}, {5, 20}, {64, 32}, {95, 1}, {7, 0}, {96, 0}} {
		x, m := memoryOf(96)
		first, _ := x.Read(piece[0], piece[1])
		second, _ := x.Read(piece[0], piece[1])
		want := slices.Clone(second)
		spoil(first, 0xee)
		_ = append(first, 1, 2, 3)
		if !slices.Equal(second, want) {
			t.Errorf("%v: two answers share memory", piece)
		}
		holdMemory(t, x, m)
		x.Write(0, make([]byte, 96))
		x.Grow(200)
		if !slices.Equal(second, want) {
			t.Errorf("%v: an answer changes with the memory", piece)
		}
	}
}

// R3, 9.13: what Words answers is the caller's own, spare room too; two answers share nothing.
func TestWordsAreTheCallers(t *testing.T) {
	for _, size := range lens {
		s, m := stackOf(size)
		first, second := s.Words(), s.Words()
		want := slices.Clone(second)
		spoil(first, odd(-1))
		_ = append(first, odd(-2), odd(-3))
		if !slices.Equal(second, want) {
			t.Errorf("of %d: two answers share memory", size)
		}
		holdStack(t, s, m)
		for i := range api.MaxStack {
			s.Put(odd(7000 + i))
		}
		if !slices.Equal(second, want) {
			t.Errorf("of %d: an answer changes with the stack", size)
		}
	}
}

// R3, 9.13: Row neither changes nor keeps what it is handed, spare room neither; nor is that room to be seen in it.
func TestRowKeepsNothing(t *testing.T) {
	for _, size := range []int{0, 1, 32, 50} {
		for at := range size + 2 {
			for _, n := range []int{0, 1, size - at, size, size + 20, size + 70, 300} {
				b, whole := spared(filled(size))
				was := slices.Clone(whole)
				place := api.Word{uint64(at)}
				first, e := mach.Row(b, place, max(n, 0))
				second, _ := mach.Row(b, place, max(n, 0))
				want := plainRow(b, place, max(n, 0))
				if e != api.OK || !slices.Equal(first, want) {
					t.Fatalf("of %d: at %d of %d: %v, %v", size, at, n, first, e)
				}
				spoil(first, 0xee)
				_ = append(first, 1, 2, 3)
				if !slices.Equal(whole, was) || !slices.Equal(second, want) {
					t.Fatalf("of %d: at %d of %d: memory is shared", size, at, n)
				}
				spoil(whole, 0x77)
				if !slices.Equal(second, want) {
					t.Fatalf("of %d: at %d of %d: an answer changes with the list", size, at, n)
				}
			}
		}
	}
}

// R3: nil and an empty list are the same, handed in.
func TestNilIsEmpty(t *testing.T) {
	x, m := memoryOf(32)
	for _, at := range numbers(32) {
		wantErrno(t, "Write", x.Write(at, nil), x.Write(at, []byte{}))
	}
	holdMemory(t, x, m)
	a, e := mach.Row(nil, api.Word{}, 3)
	b, f := mach.Row([]byte{}, api.Word{}, 3)
	if !slices.Equal(a, b) || e != f {
		t.Errorf("%v, %v and %v, %v", a, e, b, f)
	}
}

// R2: with an error every other answer is its zero value.
func TestZeroBesideAnError(t *testing.T) {
	s, _ := stackOf(-3)
	if x, e := s.Pop(); e == api.OK || x != (api.Word{}) {
		t.Errorf("Pop: %v, %v", x, e)
	}
	for _, n := range numbers(1) {
		if x, e := s.At(n); e == api.OK || x != (api.Word{}) {
			t.Errorf("At(%d): %v, %v", n, x, e)
		}
	}
	r, _ := returnsOf(-3)
	if p, e := r.Pop(); e == api.OK || p != (api.Place{}) {
		t.Errorf("Pop: %v, %v", p, e)
	}
	x, _ := memoryOf(32)
	for _, at := range []int{-1, 1, 31, 32, math.MaxInt} {
		if w, e := x.Load(at); e == api.OK || w != (api.Word{}) {
			t.Errorf("Load(%d): %v, %v", at, w, e)
		}
		if b, e := x.Read(at, 32); e == api.OK || len(b) != 0 {
			t.Errorf("Read(%d): %v, %v", at, b, e)
		}
	}
	if n, ok := x.Reach(api.Word{api.MaxMemory}, api.Word{1}); ok || n != 0 {
		t.Errorf("Reach: %d, %v", n, ok)
	}
	if b, e := mach.Row(filled(9), api.Word{}, -1); e == api.OK || len(b) != 0 {
		t.Errorf("Row: %v, %v", b, e)
	}
}

// R4: the same calls answer the same again, on another object, with much done in between to a third.
func TestTheSameAgain(t *testing.T) {
	once := func(seed draw) []any {
		s, m := mach.NewStack(), &stackModel{}
		x, n := mach.NewMemory(), newMemoryModel()
		for range 500 {
			stackStep(t, &seed, s, m)
			memoryStep(t, &seed, x, n)
		}
		b, _ := x.Read(0, x.Len())
		row, _ := mach.Row(b, api.Word{3}, 100)
		l := []any{s.Len(), x.Len(), string(b), string(row), s.Peek(3)}
		for _, w := range s.Words() {
			l = append(l, w)
		}
		return l
	}
	first := once(5)
	once(6)
	if second := once(5); !slices.Equal(first, second) {
		t.Errorf("%v, then %v", first, second)
	}
}

// R4: objects that are used at the same time, each by one goroutine, have nothing in common.
func TestSideBySide(t *testing.T) {
	var all sync.WaitGroup
	wrong := make([]bool, 8)
	for i := range wrong {
		all.Go(func() {
			s, r, x := mach.NewStack(), mach.NewReturns(), mach.NewMemory()
			x.Grow(320)
			for k := range 2000 {
				s.Put(odd(i + k))
				r.Put(spot(i + k))
				x.Store(k%289, odd(i+k))
				w, _ := x.Load(k % 289)
				wrong[i] = wrong[i] || w != odd(i+k) || s.Peek(1) != odd(i+k) || r.Take() != spot(i+k)
			}
		})
	}
	all.Wait()
	if slices.Contains(wrong, true) {
		t.Errorf("%v", wrong)
	}
}
