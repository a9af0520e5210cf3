package undo_test

import (
	"cmp"
	"maps"
	"slices"
	"testing"

	"vouch/api"
	"vouch/undo"
)

// The model: a plain map, of which each mark keeps a whole copy.
type model[K comparable, V any] struct {
	now   map[K]V
	marks []map[K]V
}

func newModel[K comparable, V any]() *model[K, V] { return &model[K, V]{now: map[K]V{}} }

func (m *model[K, V]) delete(k K) bool {
	_, there := m.now[k]
	delete(m.now, k)
	return there
}

func (m *model[K, V]) mark() int {
	m.marks = append(m.marks, maps.Clone(m.now))
	return len(m.marks) - 1
}

func (m *model[K, V]) back(mark int) api.Errno {
	if mark < 0 || mark >= len(m.marks) {
		return api.ErrMark
	}
	m.now, m.marks = m.marks[mark], m.marks[:mark]
	return api.OK
}

func (m *model[K, V]) forget(mark int) api.Errno {
	if mark < 0 || mark >= len(m.marks) {
		return api.ErrMark
	}
	m.marks = m.marks[:mark]
	return api.OK
}

// pair is what All gives in one turn.
type pair[K comparable, V any] struct {
	key   K
	value V
}

// told is all that a table tells without being changed.
type told[K, V comparable] struct {
	length, marks int
	keys          []K
	all           []pair[K, V]
}

func tell[K, V comparable](x *undo.Table[K, V], order func(a, b K) int) told[K, V] {
	return told[K, V]{x.Len(), x.Marks(), x.Keys(order), pairs(x, order)}
}

func pairs[K, V comparable](x *undo.Table[K, V], order func(a, b K) int) []pair[K, V] {
	var l []pair[K, V]
	for k, v := range x.All(order) {
		l = append(l, pair[K, V]{k, v})
	}
	return l
}

func (a told[K, V]) same(b told[K, V]) bool {
	return a.length == b.length && a.marks == b.marks && slices.Equal(a.keys, b.keys) && slices.Equal(a.all, b.all)
}

func (m *model[K, V]) keys(order func(a, b K) int) []K {
	return slices.SortedFunc(maps.Keys(m.now), order)
}

// hold holds a table against the model: all that it tells, and the keys that may be asked for.
func hold[K, V comparable](t *testing.T, x *undo.Table[K, V], m *model[K, V], ask []K, order func(a, b K) int) {
	t.Helper()
	want := told[K, V]{length: len(m.now), marks: len(m.marks), keys: m.keys(order)}
	for _, k := range want.keys {
		want.all = append(want.all, pair[K, V]{k, m.now[k]})
	}
	if got := tell(x, order); !got.same(want) {
		t.Fatalf("tells %v, not %v", got, want)
	}
	for _, k := range ask {
		v, there := x.Get(k)
		if w, is := m.now[k]; v != w || there != is {
			t.Fatalf("Get(%v): %v %v, not %v %v", k, v, there, w, is)
		}
	}
}

// spot is a key that is a struct with an array.
type spot struct {
	who  [20]byte
	slot [4]uint64
}

func bySpot(a, b spot) int {
	if c := slices.Compare(a.who[:], b.who[:]); c != 0 {
		return c
	}
	return slices.Compare(a.slot[:], b.slot[:])
}

// spotOf: spots that are alike but for one byte or one number, each i another.
func spotOf(i int) spot {
	var s spot
	s.who[i%20] = byte(i % 3)
	s.slot[i%4] = uint64(i)
	return s
}

func turned[K any](order func(a, b K) int) func(a, b K) int {
	return func(a, b K) int { return order(b, a) }
}

var numbers = cmp.Compare[int]

// put sets all of the keys, in turn, to ten times themselves.
func put(x *undo.Table[int, int], keys ...int) {
	for _, k := range keys {
		x.Set(k, 10*k)
	}
}

func wantKeys(t *testing.T, x *undo.Table[int, int], want ...int) {
	t.Helper()
	if got := x.Keys(numbers); !slices.Equal(got, want) || x.Len() != len(want) {
		t.Errorf("keys %v, %d of them, not %v", got, x.Len(), want)
	}
}

func wantGet[K, V comparable](t *testing.T, x *undo.Table[K, V], k K, want V, there bool) {
	t.Helper()
	if v, ok := x.Get(k); v != want || ok != there {
		t.Errorf("Get(%v): %v %v, not %v %v", k, v, ok, want, there)
	}
}

func wantErrno(t *testing.T, got, want api.Errno) {
	t.Helper()
	if got != want {
		t.Errorf("%v, not %v", got, want)
	}
}

// draw is a row of numbers that looks like chance and is the same in each run.
type draw uint64

func (d *draw) next() uint64 {
	*d += 0x9e3779b97f4a7c15
	z := uint64(*d)
	z = (z ^ z>>30) * 0xbf58476d1ce4e5b9
	z = (z ^ z>>27) * 0x94d049bb133111eb
	return z ^ z>>31
}

func (d *draw) below(n int) int { return int(d.next() % uint64(n)) }
