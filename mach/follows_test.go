package mach_test

import (
	"slices"
	"testing"

	"vouch/api"
	"vouch/mach"
)

// stackStep does one drawn call with a stack and with its model; the answers must be alike.
func stackStep(t *testing.T, d *draw, s *mach.Stack, m *stackModel) {
	t.Helper()
	n, k := d.of(numbers(m.size)), d.of(numbers(m.size))
	if d.below(2) == 0 {
		n, k = d.below(20)-2, d.below(20)-2
	}
	w := d.word()
	var x, y api.Word
	var e, f api.Errno
	call := d.below(12)
	switch call {
	case 0, 1:
		s.Put(w)
		m.put(w)
	case 2:
		x, y = s.Take(), m.take()
	case 3:
		e, f = s.Push(w), m.push(w)
	case 4:
		x, e = s.Pop()
		y, f = m.pop()
	case 5:
		x, e = s.At(n)
		y, f = m.at(n)
	case 6:
		e, f = s.Dup(n), m.dup(n)
	case 7:
		e, f = s.Swap(n), m.swap(n)
	case 8:
		e, f = s.Exchange(n, k), m.exchange(n, k)
	case 9:
		x, y = s.Peek(n), m.peek(n)
	case 10:
		s.Again(n)
		m.put(m.peek(n))
	default:
		s.Turn(n, k)
		m.turn(n, k)
	}
	if x != y || e != f || s.Len() != m.size {
		t.Fatalf("call %d of %d, %d: %v, %v, Len %d, not %v, %v, %d", call, n, k, x, e, s.Len(), y, f, m.size)
	}
}

// 9.1 to 9.4, 9.11: rows of drawn calls, on stacks that begin at every kind of Len, two in turns.
func TestDrawnStackCalls(t *testing.T) {
	for i, size := range lens {
		d := draw(i)
		s, m := stackOf(size)
		other, its := mach.NewStack(), &stackModel{}
		for turn := range 600 {
			stackStep(t, &d, s, m)
			if turn%3 == 0 {
				stackStep(t, &d, other, its)
			}
			if turn%50 == 0 {
				holdStack(t, s, m)
				holdStack(t, other, its)
			}
		}
		holdStack(t, s, m)
		holdStack(t, other, its)
	}
}

// 9.5: rows of drawn calls, two return stacks in turns.
func TestDrawnReturnsCalls(t *testing.T) {
	for i, size := range lens {
		d := draw(i)
		r, m := returnsOf(size)
		other, its := mach.NewReturns(), &returnsModel{}
		for range 3000 {
			returnsStep(t, &d, r, m)
			if d.below(3) == 0 {
				returnsStep(t, &d, other, its)
			}
		}
		holdReturns(t, r, m)
		holdReturns(t, other, its)
	}
}

func returnsStep(t *testing.T, d *draw, r *mach.Returns, m *returnsModel) {
	t.Helper()
	place := api.Place{Section: d.below(1024), At: d.below(65536)}
	var p, q api.Place
	var e, f api.Errno
	switch d.below(5) {
	case 0, 1:
		e, f = r.Push(place), m.push(place)
	case 2:
		p, e = r.Pop()
		q, f = m.pop()
	case 3:
		r.Put(place)
		m.put(place)
	default:
		p, q = r.Take(), m.take()
	}
	if p != q || e != f || r.Len() != m.size {
		t.Fatalf("%v, %v, Len %d, not %v, %v, %d", p, e, r.Len(), q, f, m.size)
	}
}

// memoryStep does one drawn call with a memory and with its model.
func memoryStep(t *testing.T, d *draw, x *mach.Memory, m *memoryModel) {
	t.Helper()
	at, to, n := d.below(m.size+40)-2, d.below(m.size+40)-2, d.below(80)-1
	if d.below(8) == 0 {
		at, to, n = d.of(numbers(m.size)), d.of(numbers(m.size)), d.of(numbers(m.size))
	}
	var a, b any
	var e, f api.Errno
	call := d.below(8)
	switch call {
	case 0:
		a, e = x.Load(at)
		b, f = m.load(at)
	case 1:
		w := d.word()
		e, f = x.Store(at, w), m.store(at, w)
	case 2:
		w := byte(d.next())
		e, f = x.Store8(at, w), m.write(at, []byte{w})
	case 3:
		l, le := x.Read(at, n)
		k, ke := m.read(at, n)
		a, e, b, f = string(l), le, string(k), ke
	case 4:
		l := d.bytes(d.below(80))
		e, f = x.Write(at, l), m.write(at, l)
	case 5:
		e, f = x.Move(to, at, n), m.move(to, at, n)
	case 6:
		grow := min(m.size+d.below(60)-20, 1500)
		e, f = x.Grow(grow), m.grow(grow)
	default:
		p, q := api.Word{uint64(at)}, api.Word{uint64(n)}
		l, le := x.Reach(p, q)
		k, ke := m.reach(p, q)
		if l != k || le != ke {
			t.Fatalf("Reach(%d, %d): %d, %v, not %d, %v", at, n, l, le, k, ke)
		}
	}
	if a != b || e != f || x.Len() != m.size {
		t.Fatalf("call %d of %d, %d, %d: %v, %v, Len %d, not %v, %v, %d", call, at, to, n, a, e, x.Len(), b, f, m.size)
	}
}

// 9.6 to 9.9, 9.12: rows of drawn calls, two memories in turns.
func TestDrawnMemoryCalls(t *testing.T) {
	for seed := range 40 {
		d := draw(seed)
		x, m := mach.NewMemory(), newMemoryModel()
		other, its := mach.NewMemory(), newMemoryModel()
		for range 600 {
			size := x.Len()
			memoryStep(t, &d, x, m)
			if x.Len() < size {
				t.Fatalf("from %d to %d: shorter", size, x.Len())
			}
			if d.below(3) == 0 {
				memoryStep(t, &d, other, its)
				holdMemory(t, other, its)
			}
			holdMemory(t, x, m)
		}
	}
}

// 9.11: behind Put(x), Take answers x, and Len is as ahead of the two; so, where they answer OK, of Push and Pop.
func TestPutThenTake(t *testing.T) {
	for i := range 4000 {
		size := i - 2000
		s := mach.NewStack()
		for s.Len() > size {
			s.Take()
		}
		for s.Len() < size {
			s.Put(odd(1))
		}
		s.Put(odd(i))
		if x := s.Take(); x != odd(i) || s.Len() != size {
			t.Fatalf("of %d: %v, Len %d", size, x, s.Len())
		}
		if s.Push(odd(i+1)) != api.OK {
			continue
		}
		if size < 0 { // Pop looks, and sees nothing there.
			if _, e := s.Pop(); e != api.ErrUnderflow || s.Len() != size+1 {
				t.Fatalf("of %d: Pop %v", size, e)
			}
			continue
		}
		if x, e := s.Pop(); x != odd(i+1) || e != api.OK || s.Len() != size {
			t.Fatalf("of %d: %v, %v, Len %d", size, x, e, s.Len())
		}
	}
}

// 9.11: Turn(n, m) twice is nothing, so Swap(n) and Exchange(n, m) twice.
func TestTwiceIsNothing(t *testing.T) {
	d := draw(8)
	for _, size := range lens {
		s, m := stackOf(size)
		for range 200 {
			n, k := d.of(numbers(size)), d.of(numbers(size))
			if d.below(2) == 0 {
				n, k = 1+d.below(600), 1+d.below(600)
			}
			for range 2 {
				s.Turn(n, k)
			}
			for range 2 {
				s.Swap(n)
			}
			for range 2 {
				s.Exchange(n, k)
			}
		}
		holdStack(t, s, m)
	}
}

// 9.11: Peek(n), Again(n) and Turn(n, m) answer of n and n + MaxStack the same.
func TestOnceRoundIsTheSame(t *testing.T) {
	d := draw(9)
	for _, size := range lens {
		for range 40 {
			n, k := d.below(5000)-2500, d.below(5000)-2500
			a, _ := stackOf(size)
			b, _ := stackOf(size)
			if a.Peek(n) != a.Peek(n+api.MaxStack) || a.Peek(n) != a.Peek(n-api.MaxStack) {
				t.Fatalf("of %d: Peek(%d)", size, n)
			}
			a.Again(n)
			b.Again(n + api.MaxStack)
			a.Turn(n, k)
			b.Turn(n+api.MaxStack, k-api.MaxStack)
			for i := 1; i <= api.MaxStack; i++ {
				if a.Peek(i) != b.Peek(i) {
					t.Fatalf("of %d: %d, %d: the %d-th", size, n, k, i)
				}
			}
		}
	}
}

// 9.11: of MaxStack + k words that were put the last MaxStack are there, and the first k are gone.
func TestTheFirstAreGone(t *testing.T) {
	for _, k := range []int{0, 1, 2, 500, 1023, 1024, 1025, 3000} {
		s := mach.NewStack()
		for i := range api.MaxStack + k {
			s.Put(odd(i))
		}
		words := s.Words()
		if len(words) != api.MaxStack || s.Len() != api.MaxStack+k {
			t.Fatalf("%d words, Len %d", len(words), s.Len())
		}
		for i, x := range words {
			if x != odd(k+i) {
				t.Fatalf("word %d of %d more: %v", i, k, x)
			}
		}
		for i := range k {
			if slices.Contains(words, odd(i)) {
				t.Fatalf("of %d more the first %d are not gone", k, i+1)
			}
		}
		for i := api.MaxStack + k - 1; i >= k; i-- {
			if x := s.Take(); x != odd(i) {
				t.Fatalf("Take of word number %d: %v", i, x)
			}
		}
	}
}

// 9.12: Read of what Write wrote is that, Load of what Store stored; Store and Write, Load and Read are of one form.
func TestWrittenIsRead(t *testing.T) {
	d := draw(12)
	for range 2000 {
		x, m := memoryOf(256)
		at, w := d.below(225), d.word()
		b := d.bytes(d.below(257 - at))
		wantErrno(t, "Write", x.Write(at, b), api.OK)
		m.write(at, b)
		if got, e := x.Read(at, len(b)); e != api.OK || !slices.Equal(got, b) {
			t.Fatalf("Read: %v, %v, not %v", got, e, b)
		}
		wantErrno(t, "Store", x.Store(at, w), api.OK)
		m.store(at, w)
		if got, e := x.Load(at); e != api.OK || got != w {
			t.Fatalf("Load: %v, %v, not %v", got, e, w)
		}
		if got, _ := x.Read(at, 32); !slices.Equal(got, bytesOf(w)) {
			t.Fatalf("Read behind Store: %v", got)
		}
		holdMemory(t, x, m)
	}
}

// 9.12: a byte to which nothing was written is 0, however memory came to its length.
func TestUnwrittenIsZero(t *testing.T) {
	d := draw(13)
	for range 50 {
		x := mach.NewMemory()
		for x.Len() < 5000 {
			x.Grow(x.Len() + 1 + d.below(200))
			b, _ := x.Read(0, x.Len())
			if i := slices.IndexFunc(b, func(b byte) bool { return b != 0 }); i >= 0 {
				t.Fatalf("byte %d: %d", i, b[i])
			}
		}
	}
}

// 9.12: two of a kind have nothing in common.
func TestTwoHaveNothingInCommon(t *testing.T) {
	s, r, x := mach.NewStack(), mach.NewReturns(), mach.NewMemory()
	x.Grow(64)
	for i := range api.MaxStack {
		s.Put(odd(i))
		r.Put(spot(i))
	}
	x.Write(0, filled(64))
	holdStack(t, mach.NewStack(), &stackModel{})
	holdReturns(t, mach.NewReturns(), &returnsModel{})
	other := mach.NewMemory()
	other.Grow(32)
	holdMemory(t, other, &memoryModel{size: 32})
	other.Grow(4096)
	holdMemory(t, other, &memoryModel{size: 4096})
	if x.Len() != 64 {
		t.Errorf("Len %d", x.Len())
	}
}
