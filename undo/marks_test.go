package undo_test

import (
	"math"
	"slices"
	"testing"

	"vouch/api"
	"vouch/undo"
)

// 3.5: marks are numbered from 0 on; Mark answers what Marks was; nothing else changes.
func TestMark(t *testing.T) {
	x, m := filled(20, 1)
	for i := range 100 {
		if x.Marks() != i {
			t.Fatalf("%d marks, not %d", x.Marks(), i)
		}
		if got := x.Mark(); got != i {
			t.Fatalf("mark %d, not %d", got, i)
		}
		m.mark()
		if i%3 == 0 {
			x.Set(i, i)
			m.now[i] = i
		}
		hold(t, x, m, []int{i, 0, -1}, numbers)
	}
}

// 3.6, 3.7, R2: what is no mark is refused, and nothing changes.
func TestNoMark(t *testing.T) {
	for marks := range 4 {
		x, m := filled(10, 2)
		for range marks {
			x.Mark()
			m.mark()
			x.Set(3, x.Marks())
			m.now[3] = x.Marks()
		}
		for _, no := range []int{-1, -2, marks, marks + 1, marks + 100, math.MinInt, math.MinInt + 1, math.MaxInt, math.MinInt32, math.MaxInt32, 1 << 32, -1 << 32} {
			wantErrno(t, x.Back(no), api.ErrMark)
			wantErrno(t, x.Forget(no), api.ErrMark)
			hold(t, x, m, []int{3}, numbers)
		}
		for mark := marks - 1; mark >= 0; mark-- {
			wantErrno(t, x.Back(mark), m.back(mark))
			hold(t, x, m, []int{3}, numbers)
		}
	}
}

// staged: a table with five marks, between which every kind of change was made.
func staged() (*undo.Table[int, int], *model[int, int]) {
	x, m := undo.New[int, int](), newModel[int, int]()
	set := func(k, v int) {
		x.Set(k, v)
		m.now[k] = v
	}
	mark := func() {
		x.Mark()
		m.mark()
	}
	gone := func(k int) {
		x.Delete(k)
		m.delete(k)
	}
	set(1, 10)
	set(2, 20)
	mark()
	set(1, 11)
	gone(2)
	set(3, 30)
	mark()
	mark()
	gone(3)
	gone(3)
	set(3, 31)
	set(3, 32)
	gone(1)
	mark()
	set(4, 40)
	gone(4)
	set(2, 22)
	mark()
	gone(2)
	gone(3)
	set(5, 0)
	return x, m
}

// wantNoMarks: from first on there is none.
func wantNoMarks(t *testing.T, x *undo.Table[int, int], first int) {
	t.Helper()
	for mark := first; mark < first+6; mark++ {
		wantErrno(t, x.Back(mark), api.ErrMark)
		wantErrno(t, x.Forget(mark), api.ErrMark)
	}
}

func few() []int { return []int{0, 1, 2, 3, 4, 5, 6} }

// 3.6: Back to each of the marks, at once; m and all behind it are none any more.
func TestBack(t *testing.T) {
	for mark := range 5 {
		x, m := staged()
		hold(t, x, m, few(), numbers)
		wantErrno(t, x.Back(mark), api.OK)
		m.back(mark)
		hold(t, x, m, few(), numbers)
		wantNoMarks(t, x, mark)
		hold(t, x, m, few(), numbers)
	}
}

// 3.7: Forget of each of the marks: keys and values stay; back to each mark ahead of it leads to how it stood there.
func TestForget(t *testing.T) {
	for mark := range 5 {
		for ahead := range mark + 1 {
			x, m := staged()
			wantErrno(t, x.Forget(mark), api.OK)
			m.forget(mark)
			hold(t, x, m, few(), numbers)
			wantNoMarks(t, x, mark)
			hold(t, x, m, few(), numbers)
			wantErrno(t, x.Back(ahead), m.back(ahead))
			hold(t, x, m, few(), numbers)
		}
	}
}

// 3.6: a mark that was gone back to, or forgotten, and set again, is the one that was set last.
func TestMarkAgain(t *testing.T) {
	x := undo.New[int, int]()
	x.Set(1, 10)
	x.Mark()
	x.Set(1, 11)
	x.Back(0)
	x.Set(1, 12)
	x.Set(2, 20)
	if x.Mark() != 0 {
		t.Error("not the mark 0")
	}
	x.Set(1, 13)
	x.Delete(2)
	x.Forget(0)
	if x.Mark() != 0 {
		t.Error("not the mark 0 behind Forget")
	}
	x.Set(1, 14)
	wantErrno(t, x.Back(0), api.OK)
	wantGet(t, x, 1, 13, true)
	wantKeys(t, x, 1)
	wantErrno(t, x.Back(0), api.ErrMark)
}

// 3.6, 3.7: what was changed without a mark is not taken back by a later one.
func TestChangesAheadOfMarks(t *testing.T) {
	x := undo.New[int, int]()
	put(x, 1, 2, 3)
	x.Delete(2)
	x.Mark()
	x.Back(0)
	wantKeys(t, x, 1, 3)
	x.Mark()
	x.Set(4, 1)
	x.Forget(0)
	x.Set(5, 1)
	x.Mark()
	x.Set(6, 1)
	x.Back(0)
	wantKeys(t, x, 1, 3, 4, 5)
}

// 3.6: keys set twice and deleted twice since the mark are as they were at it; an empty table is empty.
func TestBackFromTwice(t *testing.T) {
	x := undo.New[spot, int]()
	k, other := spotOf(7), spotOf(8)
	x.Mark()
	x.Set(k, 1)
	x.Set(k, 2)
	x.Delete(k)
	x.Delete(k)
	x.Set(k, 3)
	x.Back(0)
	hold(t, x, newModel[spot, int](), []spot{k, other}, bySpot)
	x.Set(k, 1)
	x.Set(other, 2)
	x.Mark()
	x.Delete(k)
	x.Delete(k)
	x.Set(k, 3)
	x.Set(k, 4)
	x.Delete(other)
	x.Back(0)
	wantGet(t, x, k, 1, true)
	wantGet(t, x, other, 2, true)
	if x.Len() != 2 {
		t.Errorf("%d keys", x.Len())
	}
	x.Mark()
	x.Back(0)
	if x.Len() != 2 || x.Marks() != 0 {
		t.Error("Back right behind Mark")
	}
}

// anything does one thing, of any kind, to a table and to the model, and holds what both answer against each other.
func anything[K, V comparable](t *testing.T, seed *draw, x *undo.Table[K, V], m *model[K, V], k K, v V) {
	t.Helper()
	switch seed.below(16) {
	case 0, 1:
		if got, want := x.Mark(), m.mark(); got != want {
			t.Fatalf("Mark: %d, not %d", got, want)
		}
	case 2:
		mark := seed.below(len(m.marks)+3) - 1
		wantErrno(t, x.Back(mark), m.back(mark))
	case 3:
		mark := seed.below(len(m.marks)+3) - 1
		wantErrno(t, x.Forget(mark), m.forget(mark))
	case 4:
		mark := len(m.marks) - 1
		wantErrno(t, x.Back(mark), m.back(mark))
	case 5:
		mark := len(m.marks) - 1
		wantErrno(t, x.Forget(mark), m.forget(mark))
	case 6, 7, 8, 9:
		if got, want := x.Delete(k), m.delete(k); got != want {
			t.Fatalf("Delete(%v): %v", k, got)
		}
	default:
		x.Set(k, v)
		m.now[k] = v
	}
}

// 3.1 to 3.9: anything done in any order, keys that are numbers, against the model.
func TestAnythingNumbers(t *testing.T) {
	for run := range 300 {
		seed := draw(run)
		span := 1 + seed.below(12)
		x, m := undo.New[int, int](), newModel[int, int]()
		for range 150 {
			anything(t, &seed, x, m, seed.below(span), seed.below(5))
			hold(t, x, m, few(), numbers)
		}
	}
}

// 3.1 to 3.9: likewise, keys that are structs with arrays.
func TestAnythingStructs(t *testing.T) {
	for run := range 60 {
		seed := draw(1000 + run)
		span := 1 + seed.below(200)
		x, m := undo.New[spot, string](), newModel[spot, string]()
		for range 400 {
			k := spotOf(seed.below(span))
			anything(t, &seed, x, m, k, string(rune('a'+seed.below(5))))
			hold(t, x, m, []spot{k, spotOf(0), spotOf(span)}, bySpot)
		}
	}
}

// 3.8: Get, Len, Marks, Keys and All change nothing, and no answer changes behind the call.
func TestAskingChangesNothing(t *testing.T) {
	seed := draw(38)
	x, m := undo.New[int, int](), newModel[int, int]()
	twin := undo.New[int, int]()
	var answers []told[int, int]
	var copies []told[int, int]
	for turn := range 2000 {
		same := seed
		anything(t, &seed, x, m, turn%11, turn)
		if turn%2 == 0 {
			x.Get(turn % 13)
			x.Keys(turned(numbers))
			for range x.All(nil) {
			}
		}
		alike(&same, twin, turn%11, turn)
		got := tell(x, numbers)
		if !got.same(tell(twin, numbers)) {
			t.Fatalf("turn %d: a table that is asked goes otherwise", turn)
		}
		answers = append(answers, got)
		got.keys, got.all = slices.Clone(got.keys), slices.Clone(got.all)
		copies = append(copies, got)
	}
	for i := range answers {
		if !answers[i].same(copies[i]) {
			t.Fatalf("the answers behind turn %d have changed", i)
		}
	}
}

// alike does to a table what anything does.
func alike(seed *draw, x *undo.Table[int, int], k, v int) {
	switch seed.below(16) {
	case 0, 1:
		x.Mark()
	case 2:
		x.Back(seed.below(x.Marks()+3) - 1)
	case 3:
		x.Forget(seed.below(x.Marks()+3) - 1)
	case 4:
		x.Back(x.Marks() - 1)
	case 5:
		x.Forget(x.Marks() - 1)
	case 6, 7, 8, 9:
		x.Delete(k)
	default:
		x.Set(k, v)
	}
}

// above does anything to a table, but with the marks below floor, which it leaves.
func above(seed *draw, x *undo.Table[int, int], floor int) {
	k := seed.below(9)
	top := floor + seed.below(x.Marks()-floor+1)
	switch seed.below(8) {
	case 0, 1:
		x.Mark()
	case 2:
		x.Back(top)
	case 3:
		x.Forget(top)
	case 4, 5:
		x.Delete(k)
	default:
		x.Set(k, seed.below(99))
	}
}

// 3.9: behind Back(m) every answer is the one right behind the Mark, whatever was done between the two; without an order too.
func TestBackIsBack(t *testing.T) {
	for run := range 400 {
		seed := draw(39000 + run)
		x, m := undo.New[int, int](), newModel[int, int]()
		for turn := range 40 {
			anything(t, &seed, x, m, seed.below(9), turn)
		}
		mark := x.Mark()
		want, loose := tell(x, numbers), tell(x, nil)
		for range 80 {
			above(&seed, x, mark+1)
		}
		wantErrno(t, x.Back(mark), api.OK)
		want.marks, loose.marks = mark, mark
		if got := tell(x, numbers); !got.same(want) {
			t.Fatalf("run %d: %v, not %v", run, got, want)
		}
		if got := tell(x, nil); !got.same(loose) {
			t.Fatalf("run %d: without an order %v, not %v", run, got, loose)
		}
		m.mark()
		m.back(mark)
		for turn := range 40 {
			anything(t, &seed, x, m, seed.below(9), turn)
			hold(t, x, m, few(), numbers)
		}
	}
}

// 3.10: a mark that is forgotten, and those behind it, are as if they had never been set.
func TestForgottenIsNever(t *testing.T) {
	for run := range 400 {
		seed := draw(310000 + run)
		x, m := undo.New[int, int](), newModel[int, int]()
		never := undo.New[int, int]()
		for turn := range 40 {
			same := seed
			anything(t, &seed, x, m, turn%9, turn)
			alike(&same, never, turn%9, turn)
		}
		mark := x.Mark()
		for turn := range 40 {
			k := seed.below(9)
			switch seed.below(4) {
			case 0:
				x.Mark()
			case 1:
				x.Delete(k)
				never.Delete(k)
			default:
				x.Set(k, turn)
				never.Set(k, turn)
			}
		}
		wantErrno(t, x.Forget(mark), api.OK)
		for turn := range 60 {
			if a, b := tell(x, numbers), tell(never, numbers); !a.same(b) {
				t.Fatalf("run %d: %v, not %v", run, a, b)
			}
			if a, b := tell(x, nil), tell(never, nil); !a.same(b) {
				t.Fatalf("run %d: without an order %v, not %v", run, a, b)
			}
			same := seed
			alike(&seed, x, turn%9, turn)
			alike(&same, never, turn%9, turn)
		}
	}
}

// 3.5 to 3.7: many marks, and many changes behind one.
func TestMany(t *testing.T) {
	const many = 200000
	x := undo.New[int, int]()
	for i := range many {
		if x.Mark() != i {
			t.Fatalf("mark %d", i)
		}
		x.Set(i%1000, i)
	}
	wantErrno(t, x.Forget(many/2), api.OK)
	wantGet(t, x, 999, many-1, true)
	for i := range many {
		x.Delete(i % 1000)
		x.Set(i%1000, -i)
	}
	wantErrno(t, x.Back(many/2-1), api.OK)
	wantGet(t, x, 999, many/2-1001, true)
	wantGet(t, x, 998, many/2-2, true)
	wantErrno(t, x.Back(1500), api.OK)
	if x.Len() != 1000 {
		t.Errorf("%d keys", x.Len())
	}
	wantGet(t, x, 499, 1499, true)
	wantGet(t, x, 500, 500, true)
	wantErrno(t, x.Back(3), api.OK)
	wantKeys(t, x, 0, 1, 2)
	wantErrno(t, x.Back(0), api.OK)
	wantKeys(t, x)
}
