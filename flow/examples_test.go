package flow_test

import (
	"testing"

	"vouch/api"
	"vouch/flow"
)

// 7.3: the rows of 'Examples' that tell heights.
func TestExamplesTaken(t *testing.T) {
	for _, x := range []struct {
		types   []api.Type
		section int
		text    string
		want    []int
	}{
		{typed(0, never, 0), 0, "00", []int{0, 0, 0}},
		{typed(0, never, 2), 0, "5f 5f 01 50 00", []int{0, 0, 0, 1, 1, 1, 2, 2, 2, 3, 1, 1, 4, 0, 0}},
		{typed(0, never, 2), 0, "5f 5f e1 0001 5f 5b 00", []int{0, 0, 0, 1, 1, 1, 2, 2, 2, 5, 1, 1, 6, 1, 2, 7, 1, 2}},
		{typed(0, never, 1), 0, "5f 50 e0 fffb", []int{0, 0, 0, 1, 1, 1, 2, 0, 0}},
		{typed(0, never, 1, 1, 2, 4), 0, "5f e3 0001 00", []int{0, 0, 0, 1, 1, 1, 4, 2, 2}},
		{typed(0, never, 0, 0, 1, 2), 1, "5f e4", []int{0, 0, 0, 1, 1, 1}},
		{typed(0, never, 0, 0, 2, 2, 1, 1, 1), 1, "5f 5f e5 0002", []int{0, 0, 0, 1, 1, 1, 2, 2, 2}},
	} {
		taken(t, x.types, x.section, raw(x.text), x.want...)
	}
}

// 7.1, 7.3: the rows of 'Examples' that tell an error.
func TestExamplesRefused(t *testing.T) {
	for _, x := range []struct {
		types   []api.Type
		section int
		text    string
		wrong   api.Errno
		at      int
	}{
		{typed(0, never, 1), 0, "01 00", api.ErrUnder, 0},
		{typed(0, never, 0), 0, "00 00", api.ErrDead, 1},
		{typed(0, never, 1), 0, "5f e0 fffc", api.ErrLoop, 1},
		{typed(0, never, 1), 0, "5f e1 0001 5f 5f e1 fff8 00", api.ErrLoop, 6},
		{typed(0, never, 1, 1, 2, 4), 0, "e3 0001 00", api.ErrUnder, 0},
		{typed(0, never, 0, 0, 1, 2), 1, "e4", api.ErrReturn, 0},
		{typed(0, never, 0, 0, 1, 2), 1, "5f 5f e4", api.ErrReturn, 2},
		{typed(0, never, 0, 0, 2, 2, 1, 1, 1), 1, "5f e5 0002", api.ErrReturn, 1},
		{typed(0, never, 0, 0, 2, 2, 1, 1, 1), 1, "e5 0002", api.ErrUnder, 0},
		{typed(0, never, 0, 0, never, 1023), 0, "5f 5f e3 0001 00", api.ErrArg, 0},
		{typed(0, never, 0, 0, never, 1023), 0, "5f 5f e5 0001", api.ErrOver, 2},
		{typed(0, never, 0), 0, "60", api.ErrArg, 0},
		{typed(0, never, 0), 1, "00", api.ErrArg, 0},
		{typed(128, 0, 0), 0, "00", api.ErrArg, 0},
		{typed(0, never, 0), 0, "e0 0001 00", api.ErrArg, 0},
	} {
		refused(t, x.types, x.section, raw(x.text), x.wrong, x.at)
	}
}

// 7.4: the row of 'Examples' of Most.
func TestExamplesMost(t *testing.T) {
	if most := flow.Most(heights(0, 0, 0, 1, 0, 7, 2, 3, 3)); most != 7 {
		t.Error(most)
	}
	if most := flow.Most(nil); most != 0 {
		t.Error(most)
	}
}

// 7.5: the row of 'Examples' of Returns.
func TestExamplesReturns(t *testing.T) {
	for _, x := range []struct {
		types []api.Type
		text  string
		want  bool
	}{
		{typed(0, never, 0), "00", false},
		{typed(0, never, 0), "e4", true},
		{typed(0, never, 0), "e5 0000", false},
		{typed(0, never, 0, 0, 0, 0), "e5 0001", true},
	} {
		if got := flow.Returns(x.types, raw(x.text)); got != x.want {
			t.Errorf("Returns(%v, %s): %v", x.types, x.text, got)
		}
	}
}
