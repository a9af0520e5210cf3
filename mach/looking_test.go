package mach_test

import (
	"math"
	"testing"

	"vouch/api"
	"vouch/mach"
)

// 9.3: Push goes by Len alone: at MaxStack and above there is no room, below 0 there is.
func TestPush(t *testing.T) {
	for _, size := range lens {
		s, m := stackOf(size)
		want := api.OK
		if size >= api.MaxStack {
			want = api.ErrOverflow
		}
		wantErrno(t, "Push", s.Push(odd(9000)), want)
		wantErrno(t, "the model's", m.push(odd(9000)), want)
		holdStack(t, s, m)
	}
}

// 9.3: just MaxStack words can be pushed; the next one is refused, and again there is room behind a Pop.
func TestPushToTheLimit(t *testing.T) {
	s, m := mach.NewStack(), &stackModel{}
	for i := range api.MaxStack {
		if e := s.Push(odd(i)); e != api.OK || s.Len() != i+1 {
			t.Fatalf("Push number %d: %v", i, e)
		}
		m.put(odd(i))
	}
	for range 3 {
		wantErrno(t, "one more", s.Push(odd(1)), api.ErrOverflow)
		holdStack(t, s, m)
	}
	if x, e := s.Pop(); e != api.OK || x != odd(api.MaxStack-1) {
		t.Errorf("Pop: %v, %v", x, e)
	}
	wantErrno(t, "behind a Pop", s.Push(odd(5)), api.OK)
}

// 9.3: Pop goes by Len alone: below 1 there is nothing to take, above MaxStack there is.
func TestPop(t *testing.T) {
	for _, size := range lens {
		s, m := stackOf(size)
		x, e := s.Pop()
		y, want := m.pop()
		if x != y || e != want || (e == api.ErrUnderflow) != (size < 1) {
			t.Errorf("of %d: %v, %v, not %v, %v", size, x, e, y, want)
		}
		holdStack(t, s, m)
	}
}

// 9.3: At of every kind of number at every kind of Len, above MaxStack too.
func TestAt(t *testing.T) {
	for _, size := range lens {
		s, m := stackOf(size)
		for _, n := range numbers(size) {
			x, e := s.At(n)
			if y, want := m.at(n); x != y || e != want {
				t.Errorf("of %d: At(%d) %v, %v, not %v, %v", size, n, x, e, y, want)
			}
		}
		holdStack(t, s, m)
	}
}

// 9.4: Dup likewise; what is not there is told ahead of what has no room.
func TestDup(t *testing.T) {
	for _, size := range lens {
		for _, n := range numbers(size) {
			s, m := stackOf(size)
			if e, want := s.Dup(n), m.dup(n); e != want {
				t.Errorf("of %d: Dup(%d) %v, not %v", size, n, e, want)
			}
			holdStack(t, s, m)
		}
	}
}

// 9.4: Swap of every kind of number: n + 1 words are needed, a number above any int among them.
func TestSwap(t *testing.T) {
	for _, size := range lens {
		for _, n := range numbers(size) {
			s, m := stackOf(size)
			if e, want := s.Swap(n), m.swap(n); e != want {
				t.Errorf("of %d: Swap(%d) %v, not %v", size, n, e, want)
			}
			holdStack(t, s, m)
		}
	}
}

// 9.4: Exchange of every kind of two numbers: sums above any int among them.
func TestExchange(t *testing.T) {
	for _, size := range []int{-2500, -1, 0, 1, 2, 3, 4, 5, 1023, 1024, 1025, 2049} {
		s, m := stackOf(size)
		for _, n := range numbers(size) {
			for _, k := range numbers(size) {
				if e, want := s.Exchange(n, k), m.exchange(n, k); e != want {
					t.Errorf("of %d: Exchange(%d, %d) %v, not %v", size, n, k, e, want)
				}
			}
			holdStack(t, s, m)
		}
	}
}

// 9.4: all small numbers, on all small stacks.
func TestSmallNumbers(t *testing.T) {
	for size := -2; size <= 8; size++ {
		for n := -1; n <= 9; n++ {
			s, m := stackOf(size)
			wantErrno(t, "Dup", s.Dup(n), m.dup(n))
			wantErrno(t, "Swap", s.Swap(n), m.swap(n))
			for k := -1; k <= 9; k++ {
				wantErrno(t, "Exchange", s.Exchange(n, k), m.exchange(n, k))
			}
			holdStack(t, s, m)
		}
	}
}

// 9.3, 9.4: which error comes first where several apply, and each alone.
func TestWhichErrorComesFirst(t *testing.T) {
	for _, x := range []struct {
		what string
		size int
		call func(s *mach.Stack) api.Errno
		want api.Errno
	}{
		{"At(0) of none", 0, func(s *mach.Stack) api.Errno { _, e := s.At(0); return e }, api.ErrArg},
		{"At(-1) below none", -5, func(s *mach.Stack) api.Errno { _, e := s.At(-1); return e }, api.ErrArg},
		{"At(1) of none", 0, func(s *mach.Stack) api.Errno { _, e := s.At(1); return e }, api.ErrUnderflow},
		{"At(3) of 3", 3, func(s *mach.Stack) api.Errno { _, e := s.At(3); return e }, api.OK},
		{"At(4) of 3", 3, func(s *mach.Stack) api.Errno { _, e := s.At(4); return e }, api.ErrUnderflow},
		{"At(1025) of 1025", 1025, func(s *mach.Stack) api.Errno { _, e := s.At(1025); return e }, api.OK},
		{"At(1026) of 1025", 1025, func(s *mach.Stack) api.Errno { _, e := s.At(1026); return e }, api.ErrUnderflow},
		{"Dup(0) of a full one", 1024, func(s *mach.Stack) api.Errno { return s.Dup(0) }, api.ErrArg},
		{"Dup(1025) of a full one", 1024, func(s *mach.Stack) api.Errno { return s.Dup(1025) }, api.ErrUnderflow},
		{"Dup(1024) of a full one", 1024, func(s *mach.Stack) api.Errno { return s.Dup(1024) }, api.ErrOverflow},
		{"Dup(1) of 1025", 1025, func(s *mach.Stack) api.Errno { return s.Dup(1) }, api.ErrOverflow},
		{"Dup(1023) of 1023", 1023, func(s *mach.Stack) api.Errno { return s.Dup(1023) }, api.OK},
		{"Swap(0) of none", 0, func(s *mach.Stack) api.Errno { return s.Swap(0) }, api.ErrArg},
		{"Swap(1) of 1", 1, func(s *mach.Stack) api.Errno { return s.Swap(1) }, api.ErrUnderflow},
		{"Swap(1) of 2", 2, func(s *mach.Stack) api.Errno { return s.Swap(1) }, api.OK},
		{"Swap(greatest)", 2, func(s *mach.Stack) api.Errno { return s.Swap(math.MaxInt) }, api.ErrUnderflow},
		{"Swap(1023) of a full one", 1024, func(s *mach.Stack) api.Errno { return s.Swap(1023) }, api.OK},
		{"Swap(1024) of a full one", 1024, func(s *mach.Stack) api.Errno { return s.Swap(1024) }, api.ErrUnderflow},
		{"Exchange(0, 9) of none", 0, func(s *mach.Stack) api.Errno { return s.Exchange(0, 9) }, api.ErrArg},
		{"Exchange(9, 0) of none", 0, func(s *mach.Stack) api.Errno { return s.Exchange(9, 0) }, api.ErrArg},
		{"Exchange(greatest, least)", 3, func(s *mach.Stack) api.Errno { return s.Exchange(math.MaxInt, math.MinInt) }, api.ErrArg},
		{"Exchange(greatest, greatest)", 3, func(s *mach.Stack) api.Errno { return s.Exchange(math.MaxInt, math.MaxInt) }, api.ErrUnderflow},
		{"Exchange(1, greatest)", 3, func(s *mach.Stack) api.Errno { return s.Exchange(1, math.MaxInt) }, api.ErrUnderflow},
		{"Exchange(greatest, 1)", 3, func(s *mach.Stack) api.Errno { return s.Exchange(math.MaxInt, 1) }, api.ErrUnderflow},
		{"Exchange(1, 1) of 2", 2, func(s *mach.Stack) api.Errno { return s.Exchange(1, 1) }, api.ErrUnderflow},
		{"Exchange(1, 1) of 3", 3, func(s *mach.Stack) api.Errno { return s.Exchange(1, 1) }, api.OK},
		{"Exchange(1, greatest) below none", -2500, func(s *mach.Stack) api.Errno { return s.Exchange(1, math.MaxInt) }, api.ErrUnderflow},
	} {
		s, m := stackOf(x.size)
		wantErrno(t, x.what, x.call(s), x.want)
		if x.want != api.OK {
			holdStack(t, s, m)
		}
	}
}
