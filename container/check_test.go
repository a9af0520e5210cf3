package container_test

import (
	"math"
	"slices"
	"strconv"
	"testing"

	"vouch/api"
)

// 5.1: how many sections there may be, and that each has a type.
func TestCheckCounts(t *testing.T) {
	for n, want := range map[int]api.Errno{0: api.ErrCodes, 1: api.OK, 2: api.OK, 1023: api.OK, 1024: api.OK, 1025: api.ErrCodes, 65537: api.ErrCodes} {
		wantCheck(t, strconv.Itoa(n)+" sections", made(many(n), nil, 0, 0), want)
	}
	for _, n := range []int{1, 2, 3, 1023, 1024} {
		for _, more := range []int{-n, -1, 1, 2} {
			c := made(many(n), nil, 0, 0)
			c.Types = made(many(n+more), nil, 0, 0).Types
			wantCheck(t, strconv.Itoa(n)+" sections, more types: "+strconv.Itoa(more), c, api.ErrTypes)
		}
	}
	for n, want := range map[int]api.Errno{0: api.OK, 1: api.OK, 255: api.OK, 256: api.OK, 257: api.ErrSubs, 65536: api.ErrSubs} {
		wantCheck(t, strconv.Itoa(n)+" nested", made([]int{1}, many(n), 0, 0), want)
	}
}

// 5.1: how long each section, and each nested container, may be.
func TestCheckLengths(t *testing.T) {
	for n, want := range map[int]api.Errno{0: api.ErrNone, 1: api.OK, 2: api.OK, 65534: api.OK, 65535: api.OK, 65536: api.ErrLong, 65537: api.ErrLong} {
		for i := range 3 {
			codes := []int{1, 1, 1}
			codes[i] = n
			wantCheck(t, "section "+strconv.Itoa(i)+" with "+strconv.Itoa(n), made(codes, nil, 0, 0), want)
		}
	}
	for n, want := range map[int]api.Errno{0: api.ErrNone, 1: api.OK, 65535: api.OK, 65536: api.OK, 1 << 24: api.OK} {
		for i := range 3 {
			subs := []int{1, 1, 1}
			subs[i] = n
			wantCheck(t, "nested "+strconv.Itoa(i)+" with "+strconv.Itoa(n), made([]int{1}, subs, 0, 0), want)
		}
	}
	wantCheck(t, "the last of 1024 empty", made(append(many(1023), 0), nil, 0, 0), api.ErrNone)
	wantCheck(t, "the last of 256 nested empty", made([]int{1}, append(many(255), 0), 0, 0), api.ErrNone)
}

// 5.1: how long the data may be declared to be.
func TestCheckSize(t *testing.T) {
	for _, data := range []int{0, 1, 2, 255, 256, 65534, 65535, 65536, 65537} {
		for _, size := range []int{data - 1, data, data + 1, -1, 0, 65534, 65535, 65536, math.MinInt, math.MaxInt, math.MaxInt32, math.MinInt32, 1 << 32, -1 << 32, 1<<32 + data} {
			want := api.OK
			if size > 65535 {
				want = api.ErrLong
			} else if size < data {
				want = api.ErrArg
			}
			wantCheck(t, strconv.Itoa(data)+" bytes of data, Size "+strconv.Itoa(size), made([]int{1, 2}, []int{3}, data, size), want)
		}
	}
}

// numbers are all about the bounds of a type's fields, and those that are like a right one in their lowest bytes alone.
func numbers() []int {
	out := []int{math.MinInt, math.MaxInt, math.MinInt32, math.MaxInt32, 65535, 1 << 32, -1 << 16}
	for _, n := range []int{0, 127, 128, 255, 1023, 1024} {
		for _, far := range []int{0, 256, -256, 1024, 65536, -65536, 1 << 32} {
			out = append(out, far+n-1, far+n, far+n+1)
		}
	}
	return out
}

// 5.1: the fields of each type, those of the first one too.
func TestCheckTypes(t *testing.T) {
	for section := range 4 {
		for _, n := range numbers() {
			hold := func(name string, right bool, turn func(t *api.Type)) {
				want := api.OK
				if !right {
					want = api.ErrType
				}
				c := made([]int{1, 2, 3, 4}, nil, 0, 0)
				turn(&c.Types[section])
				wantCheck(t, "section "+strconv.Itoa(section)+", "+name+" "+strconv.Itoa(n), c, want)
			}
			hold("In", n == 0 || section > 0 && n >= 0 && n <= 127, func(t *api.Type) { t.In = n })
			hold("Out", n == 128 || section > 0 && n >= 0 && n <= 128, func(t *api.Type) { t.Out = n })
			hold("Most", n >= 0 && n <= 1023, func(t *api.Type) { t.Most = n })
		}
	}
	for _, last := range []api.Type{{In: 128}, {Out: 129}, {Most: 1024}, {In: -1}} {
		c := made(many(1024), nil, 0, 0)
		c.Types[1023] = last
		wantCheck(t, "the last of 1024 types", c, api.ErrType)
	}
}

// breaks are ways to break a container with three sections, two nested containers and some data, in the order in which Check asks for them.
func breaks() []struct {
	name  string
	wrong api.Errno
	turn  func(c *api.Container)
} {
	type container = *api.Container
	return []struct {
		name  string
		wrong api.Errno
		turn  func(c *api.Container)
	}{
		{"no section", api.ErrCodes, func(c container) { c.Codes = nil }},
		{"too many sections", api.ErrCodes, func(c container) { c.Codes = append(c.Codes, made(many(1024), nil, 0, 0).Codes...) }},
		{"fewer types", api.ErrTypes, func(c container) { c.Types = c.Types[:2] }},
		{"more types", api.ErrTypes, func(c container) { c.Types = append(c.Types, api.Type{}) }},
		{"section 0 empty", api.ErrNone, func(c container) { c.Codes[0] = nil }},
		{"section 0 long", api.ErrLong, func(c container) { c.Codes[0] = make([]byte, 65536) }},
		{"section 1 long", api.ErrLong, func(c container) { c.Codes[1] = make([]byte, 65536) }},
		{"section 2 empty", api.ErrNone, func(c container) { c.Codes[2] = nil }},
		{"too many nested", api.ErrSubs, func(c container) { c.Subs = append(c.Subs, made(nil, many(255), 0, 0).Subs...) }},
		{"nested 1 empty", api.ErrNone, func(c container) { c.Subs[1] = []byte{} }},
		{"long data declared", api.ErrLong, func(c container) { c.Size = 65536 }},
		{"more data than declared", api.ErrArg, func(c container) { c.Data = make([]byte, 65537) }},
		{"type 0", api.ErrType, func(c container) { c.Types[0].In = 1 }},
		{"type 1", api.ErrType, func(c container) { c.Types[1].Most = 1024 }},
	}
}

// 5.1, R2: of several clauses that are broken at once the first one is told.
func TestCheckOrder(t *testing.T) {
	all := breaks()
	hold := func(which ...int) {
		t.Helper()
		c := made([]int{1, 2, 3}, []int{4, 5}, 2, 3)
		name := ""
		for _, i := range slices.Backward(which) { // a first break may take away what a later one turns
			all[i].turn(&c)
			name = all[i].name + "; " + name
		}
		wantCheck(t, name, c, all[which[0]].wrong)
	}
	for i := range all {
		hold(i)
		for j := i + 1; j < len(all); j++ {
			if all[j].name == "section 0 long" && all[i].name == "section 0 empty" {
				continue // one section can't be both
			}
			hold(i, j)
			for k := j + 1; k < len(all); k++ {
				hold(i, j, k)
			}
		}
	}
	wantCheck(t, "nothing broken", made([]int{1, 2, 3}, []int{4, 5}, 2, 3), api.OK)
}
