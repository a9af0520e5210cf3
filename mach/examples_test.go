package mach_test

import (
	"math"
	"slices"
	"testing"

	"vouch/api"
	"vouch/mach"
)

func small(n uint64) api.Word { return api.Word{n} }

func smallWords(l ...uint64) []api.Word {
	var words []api.Word
	for _, n := range l {
		words = append(words, small(n))
	}
	return words
}

// answered is what some calls have answered, one behind the other.
func answered(t *testing.T, row string, got, want []any) {
	t.Helper()
	if !slices.Equal(got, want) {
		t.Errorf("%s: %v, not %v", row, got, want)
	}
}

// beside is the error that stands beside an answer.
func beside[T any](_ T, e api.Errno) api.Errno { return e }

// told is an answer and its error as two, bytes as a text.
func told[T any](x T, e api.Errno) []any {
	if b, ok := any(x).([]byte); ok {
		return []any{string(b), e}
	}
	return []any{x, e}
}

// The rows of 'Examples' with stacks.
func TestExamplesOfStacks(t *testing.T) {
	s := mach.NewStack()
	answered(t, "a new one",
		[]any{beside(s.Pop()), beside(s.At(0)), beside(s.At(1)), s.Dup(1), s.Swap(1), s.Exchange(0, 9)},
		[]any{api.ErrUnderflow, api.ErrArg, api.ErrUnderflow, api.ErrUnderflow, api.ErrUnderflow, api.ErrArg})
	answered(t, "Push", []any{s.Push(small(5)), s.Push(small(6)), s.Push(small(7))}, []any{api.OK, api.OK, api.OK})
	answered(t, "At(2), Swap(2)", append(told(s.At(2)), s.Swap(2)), []any{small(6), api.OK, api.OK})
	if w := s.Words(); !slices.Equal(w, smallWords(7, 6, 5)) {
		t.Errorf("behind Swap(2): %v", w)
	}
	answered(t, "Exchange(1, 1)", []any{s.Exchange(1, 1)}, []any{api.OK})
	if w := s.Words(); !slices.Equal(w, smallWords(6, 7, 5)) {
		t.Errorf("behind Exchange(1, 1): %v", w)
	}
	answered(t, "Dup(3)", []any{s.Dup(3)}, []any{api.OK})
	if w := s.Words(); !slices.Equal(w, smallWords(6, 7, 5, 6)) {
		t.Errorf("behind Dup(3): %v", w)
	}
	answered(t, "Peek(2), Take, Len", []any{s.Peek(2), s.Take(), s.Len()}, []any{small(5), small(6), 3})
}

// The rows of 'Examples' with rings.
func TestExamplesOfRings(t *testing.T) {
	s := mach.NewStack()
	answered(t, "Take of none", []any{s.Take(), s.Len(), len(s.Words()), s.Push(small(9)), s.Len(), s.Peek(1), s.Peek(1025)},
		[]any{small(0), -1, 0, api.OK, 0, small(9), small(9)})
	s = mach.NewStack()
	answered(t, "Peek(0)", []any{s.Peek(0)}, []any{small(0)})
	s.Put(small(7))
	answered(t, "Peek(1 - 1024)", []any{s.Peek(1 - 1024)}, []any{small(7)})
	s.Turn(1, 2)
	answered(t, "Peek(2)", []any{s.Peek(2)}, []any{small(7)})
	s = mach.NewStack()
	var want []api.Word
	for i := range uint64(1025) {
		s.Put(small(i + 1))
		want = append(want, small(i+1))
	}
	if w := s.Words(); s.Len() != 1025 || !slices.Equal(w, want[1:]) {
		t.Errorf("Put of 1025: Len %d, %v", s.Len(), w)
	}
	s = mach.NewStack()
	for range 1024 {
		s.Push(small(1))
	}
	answered(t, "far down, and too many", []any{s.Exchange(1, math.MaxInt), s.Push(small(1))}, []any{api.ErrUnderflow, api.ErrOverflow})
}

// The row of 'Examples' with a return stack.
func TestExamplesOfReturns(t *testing.T) {
	r := mach.NewReturns()
	got := []any{r.Push(api.Place{Section: 2, At: 9}), r.Len()}
	got = append(got, told(r.Pop())...)
	got = append(got, beside(r.Pop()))
	answered(t, "NewReturns", got, []any{api.OK, 1, api.Place{Section: 2, At: 9}, api.OK, api.ErrUnderflow})
}

// The rows of 'Examples' with memory.
func TestExamplesOfMemory(t *testing.T) {
	x := mach.NewMemory()
	got := []any{x.Len(), beside(x.Load(0))}
	got = append(got, told(x.Read(7, 0))...)
	got = append(got, beside(x.Read(0, 1)), x.Grow(-1), x.Grow(4194305))
	answered(t, "a new one", got, []any{0, api.ErrMemory, "", api.OK, api.ErrMemory, api.ErrArg, api.ErrMemory})
	const all = math.MaxUint64
	greatest := api.Word{all, all, all, all}
	for _, row := range []struct {
		at, n api.Word
		want  int
		ok    bool
	}{{small(0), small(1), 32, true}, {small(31), small(2), 64, true}, {greatest, small(0), 0, true}, {small(4194303), small(2), 0, false}, {small(1), greatest, 0, false}} {
		if n, ok := x.Reach(row.at, row.n); n != row.want || ok != row.ok {
			t.Errorf("Reach(%v, %v): %d, %v", row.at, row.n, n, ok)
		}
	}
	got = []any{x.Grow(1), x.Len(), x.Store(0, small(0x0102))}
	got = append(got, told(x.Read(30, 2))...)
	got = append(got, told(x.Load(0))...)
	answered(t, "Grow(1)", got, []any{api.OK, 32, api.OK, "\x01\x02", api.OK, small(0x0102), api.OK})
	got = append([]any{x.Write(29, []byte{9, 8}), x.Move(30, 29, 2)}, told(x.Read(28, 4))...)
	answered(t, "Write, Move", got, []any{api.OK, api.OK, "\x00\x09\x09\x08", api.OK})
	answered(t, "beyond the end",
		[]any{x.Store(1, small(5)), x.Write(31, []byte{1, 1}), x.Move(0, 31, 2), x.Store8(32, 1), x.Store8(31, 7)},
		[]any{api.ErrMemory, api.ErrMemory, api.ErrMemory, api.ErrMemory, api.OK})
}

// The row of 'Examples' with rows.
func TestExamplesOfRows(t *testing.T) {
	got := told(mach.Row([]byte{1, 2, 3}, small(1), 4))
	got = append(got, told(mach.Row([]byte{1}, api.Word{0, 0, 0, 256}, 2))...)
	got = append(got, told(mach.Row([]byte{1}, small(0), -1))...)
	answered(t, "Row", got, []any{"\x02\x03\x00\x00", api.OK, "\x00\x00", api.OK, "", api.ErrArg})
}
