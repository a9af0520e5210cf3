package undo_test

import (
	"cmp"
	"maps"
	"slices"
	"testing"

	"vouch/undo"
)

// byLastDigit is another order than the numbers' own, and a right one.
func byLastDigit(a, b int) int {
	return cmp.Or(cmp.Compare(a%10, b%10), cmp.Compare(a, b))
}

// far answers numbers that are neither -1, 0 nor 1.
func far(a, b int) int { return (a - b) * 1000 }

// wrong: functions that are no order.
func wrong() map[string]func(a, b int) int {
	seed := draw(33)
	return map[string]func(a, b int) int{
		"nil":          nil,
		"all the same": func(a, b int) int { return 0 },
		"always ahead": func(a, b int) int { return -1 },
		"never ahead":  func(a, b int) int { return 1 },
		"round":        func(a, b int) int { return ((a-b)%3+3)%3 - 1 },
		"even or odd":  func(a, b int) int { return a&1 - b&1 },
		"by chance":    func(a, b int) int { return seed.below(3) - 1 },
	}
}

// lengths: below and above those at which a sort goes another way.
func lengths() []int { return []int{0, 1, 2, 3, 5, 12, 13, 50, 51, 300, 2000} }

// filled: a table of n numbers, set in no order, some of them taken away again between.
func filled(n int, seed draw) (*undo.Table[int, int], *model[int, int]) {
	x, m := undo.New[int, int](), newModel[int, int]()
	for len(m.now) < n {
		k := seed.below(8*n) - 4*n
		x.Set(k, k*k)
		m.now[k] = k * k
		if seed.below(4) == 0 {
			x.Delete(k)
			m.delete(k)
		}
	}
	return x, m
}

// 3.3, 3.4: rising by the order that is handed in, each key once, with its value.
func TestRising(t *testing.T) {
	orders := []func(a, b int) int{numbers, turned(numbers), byLastDigit, turned(byLastDigit), far}
	for _, n := range lengths() {
		x, m := filled(n, draw(n))
		for _, order := range orders {
			hold(t, x, m, nil, order)
		}
	}
}

// 3.3, 3.4: the numbers' own order and that turned round, told out.
func TestRisingPlain(t *testing.T) {
	x := undo.New[int, int]()
	put(x, 3, -1, 2, 30, 1)
	x.Delete(2)
	wantKeys(t, x, -1, 1, 3, 30)
	if got := x.Keys(turned(numbers)); !slices.Equal(got, []int{30, 3, 1, -1}) {
		t.Errorf("turned round: %v", got)
	}
	if got := x.Keys(byLastDigit); !slices.Equal(got, []int{-1, 30, 1, 3}) {
		t.Errorf("by the last digit: %v", got)
	}
	want := []pair[int, int]{{30, 300}, {3, 30}, {1, 10}, {-1, -10}}
	if got := pairs(x, turned(numbers)); !slices.Equal(got, want) {
		t.Errorf("All, turned round: %v", got)
	}
}

// 3.3, 3.4: keys that are structs with arrays.
func TestRisingStructs(t *testing.T) {
	x, m := undo.New[spot, int](), newModel[spot, int]()
	for i := range 400 {
		x.Set(spotOf(399-i), i)
		m.now[spotOf(399-i)] = i
	}
	hold(t, x, m, []spot{spotOf(0), spotOf(399), spotOf(400)}, bySpot)
	hold(t, x, m, nil, turned(bySpot))
}

// 3.3, 3.4: with no order, or a wrong one, each key comes once all the same, with its value.
func TestWrongOrders(t *testing.T) {
	for _, n := range lengths() {
		x, m := filled(n, draw(n+1))
		for name, order := range wrong() {
			keys := x.Keys(order)
			slices.Sort(keys)
			if !slices.Equal(keys, m.keys(numbers)) {
				t.Errorf("%s, %d keys: Keys", name, n)
			}
			got := pairs(x, order)
			if len(got) != n || !maps.Equal(maps.Collect(x.All(order)), m.now) {
				t.Errorf("%s, %d keys: All gives %d", name, n, len(got))
			}
			for _, p := range got {
				if m.now[p.key] != p.value {
					t.Errorf("%s, %d keys: All gives %v", name, n, p)
				}
			}
		}
		hold(t, x, m, nil, numbers)
	}
}

// 3.3: order is not kept: behind the call it is asked no more, by ranges neither.
func TestOrderNotKept(t *testing.T) {
	x, _ := filled(50, 5)
	asked := 0
	order := func(a, b int) int {
		asked++
		return cmp.Compare(a, b)
	}
	x.Keys(order)
	if asked == 0 {
		t.Error("Keys does not ask")
	}
	all := x.All(order)
	asked = 0
	for range all {
		x.Keys(nil)
		x.Keys(numbers)
	}
	x.Set(77, 1)
	x.Delete(77)
	for range x.All(nil) {
	}
	if asked != 0 {
		t.Errorf("asked %d times behind the call", asked)
	}
}

// 3.4: what All answers is never nil, of an empty table and without an order neither.
func TestAllNeverNil(t *testing.T) {
	x := undo.New[int, int]()
	for range 2 {
		for _, order := range []func(a, b int) int{numbers, nil} {
			all := x.All(order)
			if all == nil {
				t.Fatal("nil")
			}
			n := 0
			for range all {
				n++
			}
			if n != x.Len() {
				t.Errorf("%d keys of %d", n, x.Len())
			}
		}
		x.Set(1, 1)
	}
}

// 3.4: left early at each place, and ranged over again: it begins at the first key.
func TestAllLeft(t *testing.T) {
	x := undo.New[int, int]()
	put(x, 4, 2, 0, 1, 3)
	all := x.All(numbers)
	for leave := range 7 {
		var got []int
		for k, v := range all {
			if v != 10*k {
				t.Errorf("%d with %d", k, v)
			}
			if len(got) == leave {
				break
			}
			got = append(got, k)
		}
		if want := []int{0, 1, 2, 3, 4}[:min(leave, 5)]; !slices.Equal(got, want) {
			t.Errorf("left at %d: %v", leave, got)
		}
	}
	returned := func() int {
		for k := range all {
			return k
		}
		return -1
	}
	if returned() != 0 || returned() != 0 {
		t.Error("left by a return")
	}
	wantKeys(t, x, 0, 1, 2, 3, 4)
}

// 3.4: ranged over within its own loop, thrice, left early within too.
func TestAllWithin(t *testing.T) {
	x := undo.New[int, int]()
	put(x, 3, 1, 2)
	all := x.All(numbers)
	var got []int
	for a := range all {
		for b := range all {
			for c := range all {
				if c == 3 {
					break
				}
				got = append(got, 100*a+10*b+c)
			}
		}
	}
	want := []int{111, 112, 121, 122, 131, 132, 211, 212, 221, 222, 231, 232, 311, 312, 321, 322, 331, 332}
	if !slices.Equal(got, want) {
		t.Errorf("%v", got)
	}
}

// 3.4: keys and values are those at the call, whatever is done in the loop and between two ranges.
func TestAllWhileChanged(t *testing.T) {
	changes := map[string]func(x *undo.Table[int, int], k int){
		"set":        func(x *undo.Table[int, int], k int) { x.Set(k, -1); x.Set(k+1, -1) },
		"set others": func(x *undo.Table[int, int], k int) { x.Set(100+k, -1); x.Set(-k, -1) },
		"delete":     func(x *undo.Table[int, int], k int) { x.Delete(k); x.Delete(k + 1); x.Delete(1) },
		"set anew":   func(x *undo.Table[int, int], k int) { x.Delete(k + 1); x.Set(k+1, -1) },
		"mark":       func(x *undo.Table[int, int], k int) { x.Mark(); x.Set(k, -1) },
		"back":       func(x *undo.Table[int, int], k int) { x.Back(x.Marks() - 1) },
		"forget":     func(x *undo.Table[int, int], k int) { x.Forget(x.Marks() - 1); x.Delete(k) },
		"ask":        func(x *undo.Table[int, int], k int) { x.Keys(turned(numbers)); x.All(turned(numbers)) },
	}
	for name, change := range changes {
		x := undo.New[int, int]()
		put(x, 9, 1)
		x.Mark()
		put(x, 5, 2)
		x.Mark()
		x.Set(9, 91)
		x.Delete(5)
		put(x, 4, 3)
		want := []pair[int, int]{{1, 10}, {2, 20}, {3, 30}, {4, 40}, {9, 91}}
		all := x.All(numbers)
		for range 3 {
			var got []pair[int, int]
			for k, v := range all {
				got = append(got, pair[int, int]{k, v})
				change(x, k)
			}
			if !slices.Equal(got, want) {
				t.Errorf("%s: %v", name, got)
			}
		}
	}
}

// 3.4: two answers of All, of one table at two times, go through it each as it stood.
func TestAllTwice(t *testing.T) {
	x := undo.New[int, int]()
	put(x, 1, 2)
	early := x.All(numbers)
	x.Set(2, 21)
	put(x, 3)
	late := x.All(turned(numbers))
	x.Delete(1)
	var got []int
	for _, a := range early {
		for _, b := range late {
			got = append(got, 100*a+b)
		}
	}
	if !slices.Equal(got, []int{1030, 1021, 1010, 2030, 2021, 2010}) {
		t.Errorf("%v", got)
	}
}

// R4, 3.3, 3.9: with no order, or a wrong one that is a plain function, the same table tells the same row: asked again, of a twin, and behind Back.
func TestNoOrderSteady(t *testing.T) {
	orders := wrong()
	delete(orders, "by chance")
	for _, n := range lengths() {
		x, _ := filled(n, draw(n+2))
		twin, _ := filled(n, draw(n+2))
		for name, order := range orders {
			want := tell(x, order)
			if !tell(x, order).same(want) || !tell(twin, order).same(want) {
				t.Errorf("%s, %d keys: another row", name, n)
			}
			x.Mark()
			seed := draw(n)
			for range n {
				x.Set(seed.below(8*n)-4*n, 5)
				x.Delete(seed.below(8*n) - 4*n)
			}
			x.Back(0)
			if !tell(x, order).same(want) {
				t.Errorf("%s, %d keys: another row behind Back", name, n)
			}
		}
	}
}
