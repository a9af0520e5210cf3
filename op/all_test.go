package op_test

import (
	"slices"
	"testing"

	"vouch/api"
	"vouch/op"
)

// rising are the document's rows by rising codes.
func rising(t *testing.T) []api.Op {
	t.Helper()
	var out []api.Op
	all := rows(t)
	for code := range 256 {
		if row, ok := all[code]; ok {
			out = append(out, row)
		}
	}
	return out
}

// 4.3: the rows by rising codes, all of them; ranged over again they are the same.
func TestAll(t *testing.T) {
	want := rising(t)
	all := op.All()
	for range 3 {
		if got := slices.Collect(all); !slices.Equal(got, want) {
			t.Errorf("All: %v; want %v", got, want)
		}
	}
}

// 4.3: left at each place, it tells no more than was asked; behind that it begins anew.
func TestAllLeftEarly(t *testing.T) {
	want := rising(t)
	all := op.All()
	for stop := 1; stop <= len(want); stop++ {
		var got []api.Op
		for row := range all {
			got = append(got, row)
			if len(got) == stop {
				break
			}
		}
		if !slices.Equal(got, want[:stop]) {
			t.Errorf("left behind %d: %v", stop, got)
		}
		asked := 0
		all(func(api.Op) bool {
			asked++
			return asked < stop
		})
		if asked != stop {
			t.Errorf("to be left behind %d: asked %d times", stop, asked)
		}
	}
}

// 4.3: ranged over within itself, whole and left early, each range goes its own way.
func TestAllWithinItself(t *testing.T) {
	want := rising(t)
	all := op.All()
	outer := 0
	for row := range all {
		if row != want[outer] {
			t.Fatalf("row %d: %+v", outer, row)
		}
		inner := 0
		for other := range all {
			if other != want[inner] {
				t.Fatalf("row %d within %d: %+v", inner, outer, other)
			}
			inner++
			if outer%2 == 1 && inner > outer {
				break
			}
		}
		if whole := outer%2 == 0; whole && inner != len(want) || !whole && inner != min(outer+1, len(want)) {
			t.Fatalf("within %d: %d rows", outer, inner)
		}
		outer++
	}
	if outer != len(want) {
		t.Errorf("%d rows", outer)
	}
}

// R3, R4: a row that is written over changes nothing that is told later.
func TestRowsAreTheCallers(t *testing.T) {
	want := rising(t)
	for row := range op.All() {
		row.Name, row.In, row.Gas = "X", 99, 99
		x, _ := op.Of(row.Code)
		x.Name, x.Out = "Y", 99
	}
	if got := slices.Collect(op.All()); !slices.Equal(got, want) {
		t.Errorf("All: %v", got)
	}
}
