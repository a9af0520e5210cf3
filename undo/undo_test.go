package undo_test

import (
	"math"
	"slices"
	"testing"

	"vouch/api"
	"vouch/undo"
)

// 3.1: a new table has no key and no mark, whatever stood before it.
func TestNew(t *testing.T) {
	old := undo.New[int, int]()
	put(old, 0, 1, 2)
	old.Mark()
	x := undo.New[int, int]()
	hold(t, x, newModel[int, int](), []int{0, 1, 2, -1}, numbers)
	wantErrno(t, x.Back(0), api.ErrMark)
	wantErrno(t, x.Forget(0), api.ErrMark)
	if x.Delete(0) {
		t.Error("Delete of nothing")
	}
	s := undo.New[spot, string]()
	hold(t, s, newModel[spot, string](), []spot{{}, spotOf(1)}, bySpot)
}

// 3.2: Set of a key that is not there and of one that is; zero keys and zero values are keys and values.
func TestSet(t *testing.T) {
	x := undo.New[int, int]()
	x.Set(0, 0)
	wantGet(t, x, 0, 0, true)
	x.Set(5, 50)
	x.Set(5, 51)
	wantGet(t, x, 5, 51, true)
	x.Set(5, 0)
	wantGet(t, x, 5, 0, true)
	x.Set(5, 0)
	x.Set(-5, 7)
	wantGet(t, x, -5, 7, true)
	wantGet(t, x, 6, 0, false)
	wantKeys(t, x, -5, 0, 5)
}

// 3.2: Delete of a key that is there, that is there no more, that never was.
func TestDelete(t *testing.T) {
	x := undo.New[int, int]()
	put(x, 1, 2, 3)
	if x.Delete(4) {
		t.Error("one that never was")
	}
	for _, k := range []int{2, 3, 1} {
		if !x.Delete(k) {
			t.Errorf("%d was there", k)
		}
		if x.Delete(k) {
			t.Errorf("%d was there no more", k)
		}
		wantGet(t, x, k, 0, false)
	}
	wantKeys(t, x)
	x.Set(2, 21)
	wantGet(t, x, 2, 21, true)
	wantKeys(t, x, 2)
	x.Set(9, 0)
	if !x.Delete(9) {
		t.Error("one with the value 0 was there")
	}
}

// 3.2: each key of a row of them taken away, in each place; the others stay.
func TestDeleteEach(t *testing.T) {
	for n := 1; n < 8; n++ {
		for gone := range n {
			x, m := undo.New[int, int](), newModel[int, int]()
			for k := range n {
				x.Set(k, 10*k)
				m.now[k] = 10 * k
			}
			x.Delete(gone)
			m.delete(gone)
			hold(t, x, m, []int{0, 1, 2, 3, 4, 5, 6, 7, 8}, numbers)
			x.Set(gone, 1)
			m.now[gone] = 1
			hold(t, x, m, []int{0, 1, 2, 3, 4, 5, 6, 7, 8}, numbers)
		}
	}
}

// 3.2: structs with arrays are one key just if they are alike in all their parts.
func TestStructKeys(t *testing.T) {
	x := undo.New[spot, int]()
	for i := range 20 {
		var s spot
		s.who[i] = 1
		x.Set(s, i)
	}
	for i := range 4 {
		var s spot
		s.slot[i] = 1
		x.Set(s, 100+i)
	}
	x.Set(spot{}, 200)
	if x.Len() != 25 {
		t.Fatalf("%d keys", x.Len())
	}
	for i := range 20 {
		var s spot
		s.who[i] = 1
		wantGet(t, x, s, i, true)
		s.slot[3] = 1
		wantGet(t, x, s, 0, false)
	}
	wantGet(t, x, spot{slot: [4]uint64{2: 1}}, 102, true)
	wantGet(t, x, spot{}, 200, true)
	if !x.Delete(spot{}) || x.Delete(spot{}) || x.Len() != 24 {
		t.Error("the zero key")
	}
}

// 3.2: keys of other kinds: texts, bools, arrays, pointers, values of an interface.
func TestOtherKeys(t *testing.T) {
	texts := undo.New[string, bool]()
	texts.Set("", true)
	texts.Set("a", false)
	wantGet(t, texts, "", true, true)
	wantGet(t, texts, string([]byte{'a'}), false, true)
	wantGet(t, texts, "b", false, false)

	nothing := undo.New[struct{}, [0]int]()
	nothing.Set(struct{}{}, [0]int{})
	nothing.Mark()
	if !nothing.Delete(struct{}{}) || nothing.Len() != 0 || nothing.Back(0) != api.OK || nothing.Len() != 1 {
		t.Error("a key without parts")
	}

	a, b := new(int), new(int)
	places := undo.New[*int, int]()
	places.Set(a, 1)
	places.Set(nil, 3)
	wantGet(t, places, a, 1, true)
	wantGet(t, places, b, 0, false)
	wantGet(t, places, nil, 3, true)

	mixed := undo.New[any, any]()
	mixed.Set(1, "int")
	mixed.Set(int8(1), nil)
	mixed.Set(nil, 5)
	wantGet[any, any](t, mixed, 1, "int", true)
	wantGet[any, any](t, mixed, int8(1), nil, true)
	wantGet[any, any](t, mixed, nil, 5, true)
	wantGet[any, any](t, mixed, int16(1), nil, false)
}

// 3.2, 3.9: keys that are equal are one key, though they be told apart (0 and -0); behind Back the key is told as it was.
func TestEqualKeys(t *testing.T) {
	minus := math.Copysign(0, -1)
	x := undo.New[float64, int]()
	x.Set(0, 1)
	x.Mark()
	signs := func() []bool {
		var l []bool
		for _, k := range x.Keys(nil) {
			l = append(l, math.Signbit(k))
		}
		for k := range x.All(nil) {
			l = append(l, math.Signbit(k))
		}
		return l
	}
	wantGet(t, x, minus, 1, true)
	x.Set(minus, 2)
	wantGet(t, x, 0, 2, true)
	if x.Len() != 1 {
		t.Errorf("%d keys", x.Len())
	}
	x.Back(0)
	if got := signs(); !slices.Equal(got, []bool{false, false}) {
		t.Errorf("behind Set and Back: %v", got)
	}
	x.Mark()
	if !x.Delete(minus) {
		t.Error("Delete(-0)")
	}
	x.Set(minus, 3)
	x.Back(0)
	wantGet(t, x, minus, 1, true)
	if got := signs(); !slices.Equal(got, []bool{false, false}) {
		t.Errorf("behind Delete, Set and Back: %v", got)
	}
}

// Values are kept and answered as they are: lists, maps and what is pointed at are not copied, behind Back neither.
func TestValuesAsTheyAre(t *testing.T) {
	l := make([]int, 2, 9)
	x := undo.New[int, []int]()
	x.Set(1, l)
	x.Set(2, nil)
	x.Set(3, []int{})
	x.Mark()
	x.Set(1, nil)
	x.Delete(3)
	x.Back(0)
	l[1] = 7
	if got, _ := x.Get(1); &got[0] != &l[0] || cap(got) != 9 || got[1] != 7 {
		t.Error("Get copies a list")
	}
	for k, v := range x.All(numbers) {
		if k == 1 && &v[0] != &l[0] || k == 2 && v != nil || k == 3 && v == nil {
			t.Errorf("All copies the list of %d", k)
		}
	}
	p := new(int)
	y := undo.New[string, *int]()
	y.Set("p", p)
	wantGet(t, y, "p", p, true)
	f := undo.New[int, func() int]()
	f.Set(1, func() int { return 6 })
	if g, ok := f.Get(1); !ok || g() != 6 {
		t.Error("a function")
	}
	if g, ok := f.Get(2); ok || g != nil {
		t.Error("no function")
	}
}

// 3.2: Set and Delete without marks, against a plain map, few keys and many.
func TestLikeAMap(t *testing.T) {
	for _, span := range []int{1, 3, 20, 500} {
		seed := draw(span)
		x, m := undo.New[spot, uint64](), newModel[spot, uint64]()
		for turn := range 3000 {
			k := spotOf(seed.below(span))
			if seed.below(2) == 0 {
				v := seed.next()
				x.Set(k, v)
				m.now[k] = v
			} else if got, want := x.Delete(k), m.delete(k); got != want {
				t.Fatalf("Delete(%v): %v", k, got)
			}
			v, there := x.Get(k)
			if w, is := m.now[k]; v != w || there != is || x.Len() != len(m.now) {
				t.Fatalf("turn %d: %v %v, %d keys", turn, v, there, x.Len())
			}
			if turn%97 == 0 {
				hold(t, x, m, []spot{k, {}, spotOf(1), spotOf(span)}, bySpot)
			}
		}
	}
}
