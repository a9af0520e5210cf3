package flow_test

import (
	"bytes"
	"fmt"
	"math"
	"slices"
	"sync"
	"testing"

	"vouch/api"
	"vouch/flow"
)

// R1, 7.1: numbers of any size, in every place, bring no call to panic; what may not be is told.
func TestAnyArguments(t *testing.T) {
	numbers := []int{math.MinInt, math.MinInt + 1, -1024, -128, -1, 0, 1, 127, 128, 129, 1023, 1024, 65535, math.MaxInt32 + 1, math.MaxInt - 1, math.MaxInt}
	for _, in := range numbers {
		for _, out := range numbers {
			for _, most := range numbers {
				types := []api.Type{{In: 0, Out: 0, Most: 0}, {In: in, Out: out, Most: most}}
				for _, text := range []string{"00", "e3 0001 00", "e5 0001", "e4"} {
					held(t, types, 0, raw(text))
					held(t, types, 1, raw(text))
				}
				want := out != never
				if flow.Returns(types, raw("e5 0001")) != want {
					t.Errorf("Returns(%v): %v", types, !want)
				}
				if most := flow.Most([]api.Height{{At: in, Lo: out, Hi: most}}); most != 0 && !slices.Contains(numbers, most) {
					t.Error(most)
				}
			}
		}
	}
	for _, section := range numbers {
		held(t, typed(0, 0, 0, 1, 1, 1), section, raw("e4"))
	}
}

// R1: a section as long as one can be, and longer, of each of a few instructions.
func TestLongest(t *testing.T) {
	for _, x := range []struct {
		b     []byte
		wrong api.Errno
		at    int
	}{
		{slices.Concat(slices.Repeat([]byte{0x5b}, 65534), raw("00")), api.OK, 0},
		{slices.Concat(slices.Repeat(raw("5f 50"), 32767), raw("00")), api.OK, 0},
		{slices.Repeat([]byte{0x00}, 65535), api.ErrDead, 1},
		{slices.Concat(push(65534), raw("00")), api.ErrOver, 1023},
		{slices.Concat(slices.Repeat(slices.Concat(raw("5f"), jump(0xe2, make([]int, 256)...)), 127), raw("00")), api.OK, 0},
		{slices.Concat(slices.Repeat([]byte{0x5b}, 200000), raw("00")), api.OK, 0},
	} {
		told, wrong, at := flow.Heights(one(), 0, x.b)
		all, _ := pieces(x.b)
		if wrong != x.wrong || at != x.at || wrong == api.OK && len(told) != len(all) || wrong != api.OK && told != nil {
			t.Errorf("%d bytes: %d heights, %d, %d", len(x.b), len(told), wrong, at)
		}
	}
}

// roomy is the same list with spare room behind it that is filled.
func roomy[T any](list []T, filled T) []T {
	more := append(slices.Clone(list), filled, filled, filled)
	return more[:len(list)]
}

// R3: lists that are handed in are not changed, nor their spare room.
func TestGivenStays(t *testing.T) {
	d := chance(40)
	for range 3000 {
		types, section, b := drawn(d)
		types, b = roomy(types, api.Type{In: 1, Out: 2, Most: 3}), roomy(b, 0x5f)
		wereTypes, wereBytes := slices.Clone(types[:cap(types)]), slices.Clone(b[:cap(b)])
		told, _, _ := flow.Heights(types, section, b)
		flow.Returns(types, b)
		told = roomy(told, api.Height{At: 7, Lo: 8, Hi: 9999})
		were := slices.Clone(told[:cap(told)])
		most := flow.Most(told)
		if !slices.Equal(types[:cap(types)], wereTypes) || !bytes.Equal(b[:cap(b)], wereBytes) || !slices.Equal(told[:cap(told)], were) {
			t.Fatalf("%v, %d, % x: a list has changed", types, section, b)
		}
		if most > api.MaxMost {
			t.Fatalf("Most saw spare room: %d", most)
		}
		// The spare room says nothing either.
		held(t, types, section, b)
	}
}

// R3: what is answered is new memory, its spare room too: neither another answer nor what was handed in shares it.
func TestAnswersAreNew(t *testing.T) {
	goes(t, 41, 1000, func(types []api.Type, section int, b []byte, told []api.Height) {
		want := slices.Clone(told)
		other, _, _ := flow.Heights(types, section, b)
		room := other[:cap(other)]
		for i := range room {
			room[i] = api.Height{At: -1, Lo: -2, Hi: -3}
		}
		if !slices.Equal(told, want) {
			t.Fatalf("% x: %v behind a change of another answer", b, told)
		}
		again, wrong, _ := flow.Heights(types, section, b)
		if wrong != api.OK || !slices.Equal(again, want) {
			t.Fatalf("% x: %v behind a change of an answer", b, again)
		}
		for i := range b {
			b[i] = 0xff
		}
		for i := range types {
			types[i] = api.Type{In: -1}
		}
		if !slices.Equal(told, want) || !slices.Equal(again, want) {
			t.Fatalf("% x: %v behind a change of what was handed in", b, told)
		}
	})
}

// R3: nil and an empty list are the same.
func TestNilIsEmpty(t *testing.T) {
	for _, b := range [][]byte{nil, {}, make([]byte, 0, 9)} {
		refused(t, one(), 0, b, api.ErrArg, 0)
		if flow.Returns(one(), b) || flow.Returns(nil, b) {
			t.Error("Returns of no bytes")
		}
	}
	for _, types := range [][]api.Type{nil, {}, make([]api.Type, 0, 9)} {
		refused(t, types, 0, raw("00"), api.ErrArg, 0)
		if !flow.Returns(types, raw("e4")) || flow.Returns(types, raw("e5 0000")) {
			t.Error("Returns of no types")
		}
	}
	for _, l := range [][]api.Height{nil, {}, make([]api.Height, 0, 9), make([]api.Height, 3)[:0]} {
		if flow.Most(l) != 0 {
			t.Error(flow.Most(l))
		}
	}
}

// R4: the same call answers the same again, whatever was asked between, beside others that ask too.
func TestSameAgain(t *testing.T) {
	var group sync.WaitGroup
	b := raw("5f 5f e1 0001 5f 5b 5b e0 fffb")
	types := typed(0, never, 2)
	for seed := range uint64(4) {
		group.Go(func() {
			d := chance(50 + seed)
			for range 400 {
				theirs, section, c := drawn(d)
				for range 2 {
					if wrong := unlike(theirs, section, c); wrong != "" {
						t.Error(wrong)
						return
					}
					if wrong := unlike(types, 0, b); wrong != "" {
						t.Error(wrong)
						return
					}
				}
			}
		})
	}
	group.Wait()
	told, wrong, at := flow.Heights(types, 0, b)
	text := fmt.Sprint(told, wrong, at)
	for range 200 {
		if again, e, place := flow.Heights(types, 0, b); fmt.Sprint(again, e, place) != text {
			t.Fatal(again, e, place)
		}
		if flow.Most(told) != 2 || flow.Returns(types, b) {
			t.Fatal(flow.Most(told))
		}
	}
}
