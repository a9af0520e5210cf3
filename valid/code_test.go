package valid_test

import (
	"bytes"
	"fmt"
	"math"
	"slices"
	"testing"

	"vouch/api"
	"vouch/container"
	"vouch/flow"
	"vouch/valid"
)

// wrongNumbers are numbers of which a row of so many has none.
func wrongNumbers(many int) []int {
	return []int{math.MinInt, math.MinInt32, -65536, -2, -1, many, many + 1, many + 256, 65536, math.MaxInt32, math.MaxInt}
}

// untrue is what a code tells otherwise than the container that it is of; none: nothing.
func untrue(x *valid.Code, c api.Container, kind int) string {
	switch {
	case !bytes.Equal(x.Bytes(), bytesOf(c)):
		return "Bytes"
	case x.Kind() != kind:
		return "Kind"
	case x.Sections() != len(c.Codes):
		return "Sections"
	case !bytes.Equal(x.Data(), c.Data):
		return "Data"
	case x.Subs() != len(c.Subs):
		return "Subs"
	}
	for s, want := range c.Types {
		heights, _, _ := flow.Heights(c.Types, s, c.Codes[s])
		switch got, ok := x.Type(s); {
		case !ok || got != want:
			return fmt.Sprint("Type ", s)
		case !bytes.Equal(x.Section(s), c.Codes[s]):
			return fmt.Sprint("Section ", s)
		case !slices.Equal(x.Heights(s), heights):
			return fmt.Sprint("Heights ", s)
		}
	}
	for _, s := range wrongNumbers(len(c.Codes)) {
		if got, ok := x.Type(s); ok || got != (api.Type{}) || len(x.Section(s)) > 0 || len(x.Heights(s)) > 0 {
			return fmt.Sprint("section ", s)
		}
	}
	return ""
}

// validCode is the code of a container that is valid.
func validCode(t *testing.T, c api.Container, kind int) *valid.Code {
	t.Helper()
	x, no := valid.Validate(bytesOf(c), kind)
	if no.Code != api.OK || x == nil {
		t.Fatalf("Validate(%x, %d): %+v", bytesOf(c), kind, no)
	}
	return x
}

// 8.2: what Parse refuses is told as Parse tells it, ahead of what a clause would say; kinds that are neither ahead of both.
func TestValidateParse(t *testing.T) {
	b := bytesOf(declared(of(typed(0, never, 0), "50 fe"), 3, 3))
	for n := range b {
		_, want := container.Parse(b[:n], false)
		for _, kind := range kinds {
			if x, got := valid.Validate(b[:n], kind); x != nil || !alike(got, want) || want.Code != api.ErrCut || got.At != n {
				t.Errorf("%d bytes: %+v, want %+v", n, got, want)
			}
		}
		for _, kind := range wrongNumbers(3) {
			if x, got := valid.Validate(b[:n], kind); x != nil || !alike(got, no(api.ErrArg, 0, 0)) {
				t.Errorf("%d bytes as %d: %+v", n, kind, got)
			}
		}
	}
	if x, got := valid.Validate(append(b, 7), api.Runtime); x != nil || !alike(got, no(api.ErrTail, 0, len(b))) {
		t.Errorf("a byte behind: %+v", got)
	}
	if x, got := valid.Validate(b, api.Runtime); x != nil || !alike(got, no(api.ErrUnder, 0, 0)) {
		t.Errorf("a clause: %+v", got)
	}
	if x, got := valid.Validate(b, 0); x != nil || !alike(got, no(api.ErrArg, 0, 0)) {
		t.Errorf("no kind: %+v", got)
	}
}

// 8.2, 8.3: the code of what is taken tells what its container has.
func TestCodeTells(t *testing.T) {
	d := chance(10)
	for range 800 {
		kind := kinds[d.IntN(2)]
		c := drawn(d, kind, d.IntN(3), false)
		x := validCode(t, c, kind)
		for range 2 {
			if wrong := untrue(x, c, kind); wrong != "" {
				t.Fatalf("%x as %d: %s", bytesOf(c), kind, wrong)
			}
		}
	}
}

// 8.3: each question may be asked in any order, again and again, of several codes at once; none says anything else behind another.
func TestAnyOrder(t *testing.T) {
	d := chance(11)
	for range 60 {
		var codes []*valid.Code
		var cs []api.Container
		for range 4 {
			c := drawn(d, api.Init, 1, false)
			codes, cs = append(codes, validCode(t, c, api.Init)), append(cs, c)
		}
		for range 60 {
			n := d.IntN(len(codes))
			x, c := codes[n], cs[n]
			s := d.IntN(len(c.Codes)+2) - 1
			here := s >= 0 && s < len(c.Codes)
			var want []byte
			var heights []api.Height
			if here {
				want = c.Codes[s]
				heights, _, _ = flow.Heights(c.Types, s, want)
			}
			ok := true
			switch d.IntN(8) {
			case 0:
				ok = bytes.Equal(x.Section(s), want)
			case 1, 2, 3:
				ok = slices.Equal(x.Heights(s), heights)
			case 4:
				_, there := x.Type(s)
				ok = there == here
			case 5:
				ok = bytes.Equal(x.Bytes(), bytesOf(c)) && bytes.Equal(x.Data(), c.Data)
			case 6:
				x.Sub(s)
				x.Lay(s, c.Data)
			case 7:
				ok = x.Sections() == len(c.Codes) && x.Subs() == len(c.Subs) && x.Kind() == api.Init
			}
			if !ok {
				t.Fatalf("%x: section %d", bytesOf(c), s)
			}
		}
	}
}

// 8.3: whatever is done with what a code has told, and with the bytes that it was made of, it stays as it is.
func TestCodeStays(t *testing.T) {
	d := chance(12)
	for range 300 {
		c := drawn(d, api.Init, 1, false)
		b := bytesOf(c)
		x, _ := valid.Validate(b, api.Init)
		clear(b[:cap(b)])
		if d.IntN(2) == 0 {
			x.Heights(0)
		}
		for s := range c.Codes {
			fill(x.Section(s), 0xaa)
			fill(x.Heights(s), api.Height{At: -1, Lo: -1, Hi: -1})
		}
		fill(x.Bytes(), 0xaa)
		fill(x.Data(), 0xaa)
		if wrong := untrue(x, c, api.Init); wrong != "" {
			t.Fatalf("%x: %s", bytesOf(c), wrong)
		}
		spoilInner(x)
		if wrong := untrue(x, c, api.Init); wrong != "" {
			t.Fatalf("%x, behind what was done with the nested: %s", bytesOf(c), wrong)
		}
	}
}

// fill writes over a list that was answered, its spare room too.
func fill[T any](list []T, with T) {
	list = list[:cap(list)]
	for i := range list {
		list[i] = with
	}
}

// spoilInner writes over what the codes that a code tells have told.
func spoilInner(x *valid.Code) {
	for n := range x.Subs() {
		y, wrong := x.Sub(n)
		if wrong != api.OK {
			y, wrong = x.Lay(n, make([]byte, 400))
		}
		if wrong != api.OK {
			continue
		}
		for s := range y.Sections() {
			fill(y.Section(s), 0xaa)
			fill(y.Heights(s), api.Height{At: -1, Lo: -1, Hi: -1})
		}
		fill(y.Bytes(), 0xaa)
		fill(y.Data(), 0xaa)
	}
}
