package valid_test

import (
	"fmt"
	"slices"
	"testing"

	"vouch/api"
)

// linked is a container whose sections call those that are listed for them; all but the first return.
func linked(calls ...[]int) api.Container {
	var c api.Container
	for n, all := range calls {
		var b []byte
		for _, to := range all {
			b = append(b, 0xe3, byte(to>>8), byte(to))
		}
		if n == 0 {
			c.Types, c.Codes = typed(0, never, 0), [][]byte{append(b, 0xfe)}
			continue
		}
		c.Types, c.Codes = append(c.Types, typed(0, 0, 0)...), append(c.Codes, append(b, 0xe4))
	}
	return c
}

// 8.1: C4, the least section that is not reached.
func TestApart(t *testing.T) {
	for _, x := range []struct {
		calls [][]int
		apart int
	}{
		{[][]int{{}}, 0},
		{[][]int{{1}, {}}, 0},
		{[][]int{{}, {}}, 1},
		{[][]int{{}, {1}}, 1},
		{[][]int{{2}, {}, {}}, 1},
		{[][]int{{1}, {}, {}}, 2},
		{[][]int{{2}, {}, {1}}, 0},
		{[][]int{{}, {2}, {1}}, 1},
		{[][]int{{1}, {1}, {1}}, 2},
		{[][]int{{1}, {}, {3}, {2}, {2, 3, 1}}, 2},
		{[][]int{{4}, {}, {1}, {2}, {3}}, 0},
		{[][]int{{4, 4, 4}, {}, {1}, {}, {2, 2}}, 3},
		{[][]int{{1, 2}, {3}, {4}, {5, 6}, {6, 1}, {}, {7}, {1}}, 0},
		{[][]int{{1, 2}, {3}, {4}, {6}, {6, 1}, {5, 7}, {}, {1}}, 5},
	} {
		want := api.Reject{}
		if x.apart > 0 {
			want = no(api.ErrApart, x.apart, 0)
		}
		bothKinds(t, fmt.Sprint(x.calls), linked(x.calls...), want)
	}
}

// 8.1: C4, a JUMPF leads on as a CALLF does.
func TestApartByJumps(t *testing.T) {
	types := typed(0, never, 0, 0, never, 0, 0, never, 0)
	bothKinds(t, "a row", of(types, "e5 0001", "e5 0002", "fe"), api.Reject{})
	bothKinds(t, "a row, turned", of(types, "e5 0002", "fe", "e5 0001"), api.Reject{})
	bothKinds(t, "back to the first", of(types, "e5 0001", "e5 0000", "fe"), no(api.ErrApart, 2, 0))
	bothKinds(t, "from what is apart", of(types, "e5 0000", "fe", "e5 0001"), no(api.ErrApart, 1, 0))
	mixed := typed(0, never, 0, 0, 0, 0, 0, never, 0, 0, 0, 0)
	bothKinds(t, "both", of(mixed, "e3 0001 fe", "e5 0002", "e3 0003 fe", "e4"), no(api.ErrFlag, 1, 0))
	bothKinds(t, "both", of(typed(0, never, 0, 0, 0, 1, 0, never, 0, 0, 0, 0), "e3 0001 fe", "5f e1 0001 e4 e5 0002", "e3 0003 fe", "e4"), api.Reject{})
}

// 8.1: C4, as many sections as there may be, in a row and in a fan; and one of them apart.
func TestApartOfMany(t *testing.T) {
	row, fan := make([][]int, api.MaxSections), make([][]int, api.MaxSections)
	for n := range api.MaxSections - 1 {
		row[n] = []int{n + 1}
		fan[0] = append(fan[0], n+1)
	}
	for _, calls := range [][][]int{row, fan} {
		bothKinds(t, "all", linked(calls...), api.Reject{})
	}
	row[700] = []int{3}
	fan[0] = slices.Delete(fan[0], 700, 701)
	for _, calls := range [][][]int{row, fan} {
		bothKinds(t, "all but one", linked(calls...), no(api.ErrApart, 701, 0))
	}
}

// uses is a container with so many nested ones, of which its sections make the ones, and lay the others.
func uses(many int, made, laid []int) api.Container {
	b, most := []byte{}, 0
	for _, n := range made {
		b, most = append(b, 0x5f, 0x5f, 0x5f, 0x5f, 0xec, byte(n), 0x50), 4
	}
	for _, n := range laid {
		b, most = append(b, 0x5f, 0xe1, 0, 4, 0x5f, 0x5f, 0xee, byte(n)), max(most, 2)
	}
	c := api.Container{Types: typed(0, never, most), Codes: [][]byte{append(b, 0xfe)}}
	for range many {
		c.Subs = append(c.Subs, bytesOf(stuck()))
	}
	return c
}

// 8.1: C5 and C6, the least nested container that nothing names, then the least that is named for both.
func TestUses(t *testing.T) {
	for _, x := range []struct {
		many       int
		made, laid []int
		want       api.Reject
	}{
		{0, nil, nil, api.Reject{}},
		{1, []int{0}, nil, api.Reject{}},
		{1, nil, []int{0}, api.Reject{}},
		{1, []int{0, 0}, nil, api.Reject{}},
		{1, nil, []int{0, 0}, api.Reject{}},
		{1, nil, nil, no(api.ErrIdle, 0, 0, 0)},
		{2, nil, nil, no(api.ErrIdle, 0, 0, 0)},
		{2, []int{0}, nil, no(api.ErrIdle, 0, 0, 1)},
		{2, []int{1}, nil, no(api.ErrIdle, 0, 0, 0)},
		{2, nil, []int{1}, no(api.ErrIdle, 0, 0, 0)},
		{3, []int{2}, []int{0}, no(api.ErrIdle, 0, 0, 1)},
		{3, []int{2, 1}, []int{0}, api.Reject{}},
		{1, []int{0}, []int{0}, no(api.ErrBoth, 0, 0, 0)},
		{2, []int{1, 0}, []int{1}, no(api.ErrBoth, 0, 0, 1)},
		{2, []int{1, 0}, []int{1, 0}, no(api.ErrBoth, 0, 0, 0)},
		{3, []int{0, 2}, []int{1, 2}, no(api.ErrBoth, 0, 0, 2)},
		{2, []int{0}, []int{0}, no(api.ErrIdle, 0, 0, 1)},
		{3, []int{0, 2}, []int{0, 2}, no(api.ErrIdle, 0, 0, 1)},
	} {
		c := uses(x.many, x.made, x.laid)
		judged(t, fmt.Sprint(x.many, x.made, x.laid), c, api.Init, x.want)
		if len(x.laid) == 0 {
			judged(t, fmt.Sprint(x.many, x.made), c, api.Runtime, x.want)
		}
	}
}

// 8.1: C5 and C6 hang on all sections together.
func TestUsesOfSections(t *testing.T) {
	types := typed(0, never, 4, 0, never, 4)
	makes := []string{"5f 5f 5f 5f ec 00 e5 0001", "5f 5f 5f 5f ec 01 fe"}
	types[1].In, types[1].Most = 1, 5
	judged(t, "one each", with(of(types, makes...), bytesOf(stuck()), bytesOf(stuck())), api.Runtime, api.Reject{})
	judged(t, "a third", with(of(types, makes...), bytesOf(stuck()), bytesOf(stuck()), bytesOf(stuck())), api.Runtime, no(api.ErrIdle, 0, 0, 2))
	both := of(types, makes[0], "5f 5f ee 00")
	both.Types[1].Most = 3
	judged(t, "made in one, laid in another", with(both, bytesOf(stuck())), api.Init, no(api.ErrBoth, 0, 0, 0))
}

// 8.1: C5, as many nested ones as there may be.
func TestManySubs(t *testing.T) {
	all := make([]int, api.MaxSubs)
	for n := range all {
		all[n] = n
	}
	judged(t, "made", uses(api.MaxSubs, all, nil), api.Runtime, api.Reject{})
	judged(t, "laid", uses(api.MaxSubs, nil, all), api.Init, api.Reject{})
	judged(t, "all but the last", uses(api.MaxSubs, all[:255], nil), api.Runtime, no(api.ErrIdle, 0, 0, 255))
	judged(t, "the last for both", uses(api.MaxSubs, all, all[255:]), api.Init, no(api.ErrBoth, 0, 0, 255))
}
