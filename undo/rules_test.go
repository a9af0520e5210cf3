package undo_test

import (
	"math"
	"slices"
	"sync"
	"testing"

	"vouch/undo"
)

// R1: no call panics, at any argument, on a table in any state.
func TestNoPanic(t *testing.T) {
	seed := draw(1)
	orders := []func(a, b int) int{numbers, turned(numbers)}
	for _, order := range wrong() {
		orders = append(orders, order)
	}
	edges := []int{math.MinInt, math.MaxInt, -1, 0, 1, 2, 3, 1 << 40}
	pick := func() int { return edges[seed.below(len(edges))] }
	x := undo.New[int, int]()
	for range 20000 {
		switch seed.below(9) {
		case 0:
			x.Back(pick())
		case 1:
			x.Forget(pick())
		case 2, 3:
			x.Mark()
		case 4:
			x.Delete(pick())
		case 5:
			x.Get(pick())
		case 6:
			x.Keys(orders[seed.below(len(orders))])
		case 7:
			for range x.All(orders[seed.below(len(orders))]) {
				if seed.below(3) == 0 {
					break
				}
			}
		default:
			x.Set(pick(), pick())
		}
		x.Len()
		x.Marks()
	}
}

// R3: the keys that are told are the caller's own: written over, they change nothing, spare room neither.
func TestKeysAreTheCallers(t *testing.T) {
	for _, order := range []func(a, b spot) int{bySpot, nil} {
		x, m := undo.New[spot, int](), newModel[spot, int]()
		for i := range 30 {
			x.Set(spotOf(i), i)
			m.now[spotOf(i)] = i
		}
		x.Mark()
		m.mark()
		x.Delete(spotOf(3))
		m.delete(spotOf(3))
		all := x.All(order)
		first, second := x.Keys(order), x.Keys(order)
		kept := slices.Clone(second)
		whole := first[:cap(first)]
		for i := range whole {
			whole[i] = spot{who: [20]byte{255}}
		}
		_ = append(first, spotOf(900), spotOf(901))
		if !slices.Equal(second, kept) || !slices.Equal(x.Keys(order), kept) {
			t.Error("two answers share memory")
		}
		n := 0
		for k, v := range all {
			if w, there := m.now[k]; !there || w != v {
				t.Errorf("All gives %v with %d", k, v)
			}
			n++
		}
		if n != 29 {
			t.Errorf("All gives %d keys", n)
		}
		hold(t, x, m, []spot{spotOf(3), spotOf(4), spotOf(900), {who: [20]byte{255}}}, bySpot)
		x.Back(0)
		m.back(0)
		hold(t, x, m, []spot{spotOf(3), spotOf(900)}, bySpot)
	}
}

// R3: what the loop does with a key or a value that is an array changes nothing in the table.
func TestLoopVariablesAreTheCallers(t *testing.T) {
	x := undo.New[[2]int, [2]int]()
	x.Set([2]int{1, 2}, [2]int{3, 4})
	all := x.All(nil)
	for k, v := range all {
		k[0], v[0] = 9, 9
		_, _ = k, v
	}
	for k, v := range all {
		if k != [2]int{1, 2} || v != [2]int{3, 4} {
			t.Errorf("%v %v", k, v)
		}
	}
	v, _ := x.Get([2]int{1, 2})
	v[1] = 9
	wantGet(t, x, [2]int{1, 2}, [2]int{3, 4}, true)
}

// R3: no keys are as good as an empty list.
func TestNoKeys(t *testing.T) {
	x := undo.New[int, int]()
	if len(x.Keys(numbers)) != 0 || len(x.Keys(nil)) != 0 {
		t.Error("keys of nothing")
	}
	x.Set(1, 1)
	x.Delete(1)
	if len(x.Keys(numbers)) != 0 || len(x.Keys(nil)) != 0 {
		t.Error("keys of nothing any more")
	}
}

// R4, 3.11: tables that are changed in turn know nothing of each other: keys, values, marks.
func TestApart(t *testing.T) {
	seed := draw(311)
	var tables []*undo.Table[int, int]
	var models []*model[int, int]
	for range 4 {
		tables = append(tables, undo.New[int, int]())
		models = append(models, newModel[int, int]())
	}
	for turn := range 3000 {
		i := seed.below(len(tables))
		anything(t, &seed, tables[i], models[i], seed.below(7), turn)
		for j := range tables {
			hold(t, tables[j], models[j], few(), numbers)
		}
	}
}

// 3.11: a table changed in the loop over another one.
func TestApartInALoop(t *testing.T) {
	x, y := undo.New[int, int](), undo.New[int, int]()
	put(x, 1, 2, 3)
	x.Mark()
	y.Mark()
	for k, v := range x.All(numbers) {
		y.Set(v, k)
		x.Delete(k)
	}
	wantKeys(t, x)
	wantKeys(t, y, 10, 20, 30)
	y.Back(0)
	wantKeys(t, x)
	wantKeys(t, y)
	x.Back(0)
	wantKeys(t, x, 1, 2, 3)
	wantKeys(t, y)
}

// R4: what is done twice, to two tables, is answered twice the same, with no order too.
func TestTwins(t *testing.T) {
	for run := range 50 {
		a, b := draw(run), draw(run)
		x, y := undo.New[int, int](), undo.New[int, int]()
		for turn := range 300 {
			alike(&a, x, turn*7%31, turn)
			alike(&b, y, turn*7%31, turn)
			if !tell(x, nil).same(tell(y, nil)) || !tell(x, numbers).same(tell(y, numbers)) {
				t.Fatalf("run %d, turn %d: two answers", run, turn)
			}
		}
	}
}

// R4: tables side by side, each in a goroutine of its own, answer as one alone does.
func TestSideBySide(t *testing.T) {
	const workers = 8
	work := func() told[int, int] {
		seed := draw(88)
		x := undo.New[int, int]()
		for turn := range 5000 {
			alike(&seed, x, turn%40, turn)
		}
		return tell(x, nil)
	}
	want := work()
	var got [workers]told[int, int]
	var all sync.WaitGroup
	for i := range workers {
		all.Go(func() { got[i] = work() })
	}
	all.Wait()
	for i := range workers {
		if !got[i].same(want) {
			t.Errorf("worker %d: %v", i, got[i])
		}
	}
}
