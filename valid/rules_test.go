package valid_test

import (
	"bytes"
	"fmt"
	"math"
	"slices"
	"strings"
	"sync"
	"testing"

	"vouch/api"
	"vouch/valid"
)

// R1: numbers of any size in every field of a container bring no call to panic.
func TestAnyArguments(t *testing.T) {
	numbers := []int{math.MinInt, math.MinInt32, -65536, -128, -1, 0, 1, 2, 127, 128, 129, 1023, 1024, 65535, 65536, math.MaxInt32, math.MaxInt - 31, math.MaxInt}
	for _, a := range numbers {
		for _, b := range numbers {
			for _, c := range []api.Container{
				of(typed(a, b, 0), "fe"),
				of(typed(0, never, a, b, 0, 0), "e3 0001 fe", "e4"),
				of(typed(0, never, 0, 0, a, b), "e5 0001", "e4"),
				of(typed(a, never, b, 0, 0, 0), "e3 0001 d1 0000 fe", "e4"),
			} {
				c.Size = 0
				held(t, c, api.Runtime)
				c.Size = a
				held(t, c, api.Init)
				held(t, c, b)
			}
		}
	}
}

// R1: bytes of any kind bring no call to panic.
func TestAnyBytes(t *testing.T) {
	d := chance(40)
	for range 3000 {
		c := of(typed(0, never, d.IntN(3), 0, 0, 0))
		for range 2 {
			b := make([]byte, 1+d.IntN(9))
			for i := range b {
				b[i] = byte(d.Uint32())
			}
			c.Codes = append(c.Codes, b)
			c.Subs = append(c.Subs, slices.Concat(raw("ef0001"), b))
		}
		held(t, c, kinds[d.IntN(2)])
		valid.Validate(c.Codes[0], api.Runtime)
		valid.Validate(c.Subs[0], api.Init)
	}
}

// R1: a section as long as one can be, all of it one kind of thing.
func TestLongest(t *testing.T) {
	for _, x := range []struct {
		unit string
		many int
		most int
		want api.Reject
	}{
		{"5b", 65534, 0, api.Reject{}},
		{"5f 50", 32767, 1, api.Reject{}},
		{"e3 0001", 21844, 0, api.Reject{}},
		{"d1 0000 50", 16383, 1, api.Reject{}},
		{"5f e1 0001 50", 13106, 1, no(api.ErrUnder, 0, 4)},
		{"fe", 65534, 0, no(api.ErrDead, 0, 1)},
	} {
		c := declared(of(typed(0, never, x.most), strings.Repeat(x.unit, x.many)+"fe"), 32, 32)
		if x.unit == "e3 0001" {
			c.Types, c.Codes = append(c.Types, typed(0, 0, 0)...), append(c.Codes, raw("e4"))
		}
		if got := valid.Judge(c, api.Runtime); !alike(got, x.want) {
			t.Errorf("%s, %d times: %+v", x.unit, x.many, got)
		}
	}
}

// roomy is the same list with spare room behind it that is filled.
func roomy[T any](list []T, filled T) []T {
	more := append(slices.Clone(list), filled, filled, filled)
	return more[:len(list)]
}

// roomyContainer has spare room in each of its lists.
func roomyContainer(c api.Container) api.Container {
	c = copied(c)
	for n := range c.Codes {
		c.Codes[n] = roomy(c.Codes[n], 0x5f)
	}
	for n := range c.Subs {
		c.Subs[n] = roomy(c.Subs[n], 0x5f)
	}
	c.Types, c.Codes, c.Subs, c.Data = roomy(c.Types, api.Type{In: 1, Out: 2, Most: 3}), roomy(c.Codes, raw("5f")), roomy(c.Subs, raw("ef")), roomy(c.Data, 7)
	return c
}

// text tells all of a container, its spare room too.
func text(c api.Container) string {
	told := fmt.Sprint(c.Types[:cap(c.Types)], c.Data[:cap(c.Data)], c.Size)
	for _, b := range slices.Concat(c.Codes[:cap(c.Codes)], c.Subs[:cap(c.Subs)]) {
		told += fmt.Sprint(b[:cap(b)], len(b))
	}
	return told
}

// R3: what is handed in is not changed, nor its spare room, and the spare room says nothing.
func TestGivenStays(t *testing.T) {
	d := chance(41)
	for range 800 {
		kind := kinds[d.IntN(2)]
		c := drawn(d, kind, 2, false)
		if d.IntN(2) == 0 {
			c = spoiled(d, c)
		}
		want := modelJudge(c, kind)
		c = roomyContainer(c)
		were := text(c)
		if got := valid.Judge(c, kind); !alike(got, want) {
			t.Fatalf("%x: %+v, want %+v", c, got, want)
		}
		if text(c) != were {
			t.Fatalf("%x: changed", c)
		}
		if want.Code != api.OK || len(c.Data) < c.Size {
			continue
		}
		b := roomy(bytesOf(c), 0xee)
		all := slices.Clone(b[:cap(b)])
		x, no := valid.Validate(b, kind)
		if no.Code != api.OK || !bytes.Equal(b[:cap(b)], all) {
			t.Fatalf("%x: changed by Validate, %+v", b, no)
		}
		fill(b, 0)
		behind := roomy(slices.Repeat([]byte{0xbe}, 400), 0xdd)
		for n := range x.Subs() {
			laid, wrong := x.Lay(n, behind)
			if wrong != api.OK {
				continue
			}
			if got := laid.Data(); !bytes.HasSuffix(got, behind) {
				t.Fatalf("%x: laid % x", all, got)
			}
			fill(behind, 0xcc)
			if got := laid.Data(); !bytes.HasSuffix(got, slices.Repeat([]byte{0xbe}, 400)) {
				t.Fatalf("%x: what was laid behind is kept", all)
			}
			fill(behind[:400:400], 0xbe)
		}
		if !bytes.Equal(x.Bytes(), all[:len(b)]) {
			t.Fatalf("%x: the bytes are kept", all)
		}
	}
}

// R3: the Path of a refusal is new memory, its spare room too.
func TestPathIsNew(t *testing.T) {
	bad := bytesOf(of(typed(0, never, 0), "50 fe"))
	for _, x := range []struct {
		c    api.Container
		want []int
	}{
		{around(bytesOf(around(bytesOf(around(bad, 1, false)), 2, false)), 0, false), []int{0, 2, 1}},
		{around(bytesOf(uses(3, []int{0, 1}, nil)), 1, false), []int{1, 2}},
		{uses(3, []int{0, 1}, nil), []int{2}},
	} {
		one, other := valid.Judge(x.c, api.Runtime), valid.Judge(x.c, api.Runtime)
		_, third := valid.Validate(bytesOf(x.c), api.Runtime)
		fill(one.Path, 9)
		if !slices.Equal(other.Path, x.want) || !slices.Equal(third.Path, x.want) {
			t.Errorf("%v: %v, %v", x.want, other.Path, third.Path)
		}
	}
}

// R3: nil and an empty list are the same.
func TestNilIsEmpty(t *testing.T) {
	for _, c := range []api.Container{
		{Types: typed(0, never, 0), Codes: [][]byte{{0xfe}}},
		{Types: typed(0, never, 0), Codes: [][]byte{{0xfe}}, Subs: [][]byte{}, Data: []byte{}},
		{Types: typed(0, never, 0), Codes: [][]byte{{0xfe}}, Subs: make([][]byte, 0, 3), Data: make([]byte, 0, 3)},
	} {
		bothKinds(t, "no lists", c, api.Reject{})
	}
	bothKinds(t, "empty", api.Container{Types: []api.Type{}, Codes: [][]byte{}}, no(api.ErrCodes, 0, 0))
	for _, b := range [][]byte{nil, {}, make([]byte, 0, 30)} {
		if x, got := valid.Validate(b, api.Runtime); x != nil || !alike(got, no(api.ErrCut, 0, 0)) {
			t.Errorf("no byte: %+v", got)
		}
		laid, wrong := layer(t, stop()).Lay(0, b)
		wantCode(t, "nothing behind", laid, wrong, bytesOf(stop()), api.Runtime)
	}
}

// R4: the same call answers the same again, whatever was asked between, beside others that ask too.
func TestSameAgain(t *testing.T) {
	var group sync.WaitGroup
	for seed := range uint64(4) {
		group.Go(func() {
			d := chance(50 + seed%2)
			for range 100 {
				kind := kinds[d.IntN(2)]
				c := spoiled(d, drawn(d, kind, 2, false))
				want := modelJudge(c, kind)
				for range 3 {
					if wrong := unlike(c, kind, want); wrong != "" {
						t.Error(wrong)
						return
					}
				}
			}
		})
	}
	group.Wait()
}

// R4: two codes of the same bytes have nothing in common, and tell the same.
func TestTwoCodes(t *testing.T) {
	d := chance(60)
	for range 200 {
		c := drawn(d, api.Init, 1, false)
		x, y := validCode(t, c, api.Init), validCode(t, c, api.Init)
		for s := range c.Codes {
			fill(x.Heights(s), api.Height{At: -1, Lo: -1, Hi: -1})
			fill(x.Section(s), 0xaa)
		}
		if wrong := untrue(y, c, api.Init); wrong != "" || !same(x, y) {
			t.Fatalf("%x: %s", bytesOf(c), wrong)
		}
	}
}
