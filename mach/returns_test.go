package mach_test

import (
	"math"
	"testing"

	"vouch/api"
	"vouch/mach"
)

// spot: places that are all unlike, in both parts.
func spot(i int) api.Place { return api.Place{Section: i + 1, At: 7*i + 3} }

// returnsOf is a return stack with every place filled, and with this Len; and the model of it.
func returnsOf(size int) (*mach.Returns, *returnsModel) {
	r, m := mach.NewReturns(), &returnsModel{}
	for i := range max(size, api.MaxReturns) {
		r.Put(spot(i))
		m.put(spot(i))
	}
	for m.size > size {
		r.Take()
		m.take()
	}
	return r, m
}

// holdReturns holds a return stack against the model, once round the ring; it is used up by that.
func holdReturns(t *testing.T, r *mach.Returns, m *returnsModel) {
	t.Helper()
	for range api.MaxReturns + 1 {
		if r.Len() != m.size {
			t.Fatalf("Len %d, not %d", r.Len(), m.size)
		}
		if got, want := r.Take(), m.take(); got != want {
			t.Fatalf("of %d: Take %v, not %v", m.size+1, got, want)
		}
	}
}

// 9.5: a new one has Len 0, and {0, 0} in every place.
func TestNewReturnsIsEmpty(t *testing.T) {
	r := mach.NewReturns()
	if r.Len() != 0 {
		t.Errorf("Len %d", r.Len())
	}
	for i := range 2 * api.MaxReturns {
		if p := r.Take(); p != (api.Place{}) || r.Len() != -1-i {
			t.Fatalf("Take %v, Len %d", p, r.Len())
		}
	}
}

// 9.5: Put and Take go round the ring, at every kind of Len.
func TestReturnsRing(t *testing.T) {
	for _, size := range lens {
		r, m := returnsOf(size)
		for i := range 3 {
			r.Put(spot(9000 + i))
			m.put(spot(9000 + i))
			if r.Len() != size+i+1 {
				t.Fatalf("Len %d, not %d", r.Len(), size+i+1)
			}
		}
		holdReturns(t, r, m)
	}
}

// 9.5: place number -1 is the last of the ring.
func TestReturnsBelowNothing(t *testing.T) {
	r := mach.NewReturns()
	r.Take()
	r.Put(spot(9))
	for range api.MaxReturns - 1 {
		r.Put(spot(1))
	}
	for range api.MaxReturns - 1 {
		r.Take()
	}
	if p := r.Take(); p != spot(9) || r.Len() != -1 {
		t.Errorf("%v, Len %d", p, r.Len())
	}
}

// 9.5: Push goes by Len alone, below 0 and above MaxReturns too; refused, it changes nothing.
func TestReturnsPush(t *testing.T) {
	for _, size := range lens {
		r, m := returnsOf(size)
		want := api.OK
		if size >= api.MaxReturns {
			want = api.ErrOverflow
		}
		wantErrno(t, "Push", r.Push(spot(9000)), want)
		wantErrno(t, "the model's", m.push(spot(9000)), want)
		holdReturns(t, r, m)
	}
}

// 9.5: Pop goes by Len alone, likewise.
func TestReturnsPop(t *testing.T) {
	for _, size := range lens {
		r, m := returnsOf(size)
		p, e := r.Pop()
		q, want := m.pop()
		if p != q || e != want || (e == api.ErrUnderflow) != (size < 1) {
			t.Errorf("of %d: %v, %v, not %v, %v", size, p, e, q, want)
		}
		holdReturns(t, r, m)
	}
}

// 9.5: just MaxReturns places can be pushed, and come back the last one first.
func TestReturnsToTheLimit(t *testing.T) {
	r := mach.NewReturns()
	for i := range api.MaxReturns {
		if e := r.Push(spot(i)); e != api.OK || r.Len() != i+1 {
			t.Fatalf("Push number %d: %v", i, e)
		}
	}
	wantErrno(t, "one more", r.Push(spot(0)), api.ErrOverflow)
	for i := api.MaxReturns - 1; i >= 0; i-- {
		if p, e := r.Pop(); e != api.OK || p != spot(i) || r.Len() != i {
			t.Fatalf("Pop number %d: %v, %v", i, p, e)
		}
	}
	if p, e := r.Pop(); e != api.ErrUnderflow || p != (api.Place{}) || r.Len() != 0 {
		t.Errorf("Pop of none: %v, %v", p, e)
	}
}

// 9.5: a place may be any two numbers.
func TestReturnsOfAnyPlace(t *testing.T) {
	r := mach.NewReturns()
	for _, p := range []api.Place{{}, {Section: -1, At: -1}, {Section: math.MaxInt, At: math.MinInt}, {Section: math.MinInt, At: math.MaxInt}, {Section: 1024, At: 65535}} {
		wantErrno(t, "Push", r.Push(p), api.OK)
		if q, e := r.Pop(); q != p || e != api.OK {
			t.Errorf("%v, %v, not %v", q, e, p)
		}
		r.Put(p)
		if q := r.Take(); q != p {
			t.Errorf("%v, not %v", q, p)
		}
	}
}
