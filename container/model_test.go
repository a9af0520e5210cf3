package container_test

import (
	"bytes"
	"encoding/binary"
	"encoding/hex"
	"math/rand/v2"
	"slices"
	"strings"
	"testing"

	"vouch/api"
	"vouch/container"
)

// raw is bytes out of hexadecimal, blanks left out.
func raw(text string) []byte {
	b, err := hex.DecodeString(strings.ReplaceAll(text, " ", ""))
	if err != nil {
		panic(err)
	}
	return b
}

// chance is a row of numbers that is the same in each run.
func chance(seed uint64) *rand.Rand { return rand.New(rand.NewPCG(seed, 5)) }

// row is n bytes, other ones for another seed.
func row(seed, n int) []byte {
	b := make([]byte, n)
	for i := range b {
		b[i] = byte(seed*31 + i*7 + 1)
	}
	return b
}

// least is the least container that there is.
func least() api.Container {
	return api.Container{Types: []api.Type{{In: 0, Out: api.NoReturn, Most: 0}}, Codes: [][]byte{{0}}}
}

// with is the least container, turned.
func with(turn func(c *api.Container)) api.Container {
	c := least()
	turn(&c)
	return c
}

// made is a container with sections, nested containers and data of these lengths.
func made(codes, subs []int, data, size int) api.Container {
	c := api.Container{Data: row(3, data), Size: size}
	for i, n := range codes {
		c.Codes = append(c.Codes, row(i, n))
		c.Types = append(c.Types, api.Type{In: i * 5 % 128, Out: (128 + i*11) % 129, Most: i * 77 % 1024})
	}
	for i, n := range subs {
		c.Subs = append(c.Subs, row(i+100, n))
	}
	return c
}

// many is a list of n lengths.
func many(n int) []int {
	out := make([]int, n)
	for i := range out {
		out[i] = 1 + i%3
	}
	return out
}

// forms are containers of every form: sections, nested containers and data of many numbers and lengths, all with all.
func forms() []api.Container {
	codes := [][]int{{1}, {7}, {1, 2}, {3, 1, 4, 1, 5}, {255, 256, 257}, {65535}, many(1024)}
	subs := [][]int{nil, {1}, {2, 1}, {20, 300, 1}, {65536 + 5}, {0x8000}, many(256)}
	data := [][2]int{{0, 0}, {0, 1}, {0, 65535}, {1, 1}, {1, 2}, {299, 300}, {300, 300}, {65534, 65535}, {65535, 65535}}
	var out []api.Container
	for _, c := range codes {
		for _, s := range subs {
			for _, d := range data {
				out = append(out, made(c, s, d[0], d[1]))
			}
		}
	}
	return out
}

// small are those of the forms that have few bytes.
func small() []api.Container {
	return slices.DeleteFunc(forms(), func(c api.Container) bool { return len(laid(c)) > 700 })
}

// laid is the bytes of DOC.md's 'Containers': its list, line by line.
func laid(c api.Container) []byte {
	two := binary.BigEndian.AppendUint16
	b := []byte{0xef, 0x00, 0x01}
	b = two(append(b, 0x01), uint16(4*len(c.Codes)))
	b = two(append(b, 0x02), uint16(len(c.Codes)))
	for _, code := range c.Codes {
		b = two(b, uint16(len(code)))
	}
	if len(c.Subs) > 0 {
		b = two(append(b, 0x03), uint16(len(c.Subs)))
		for _, sub := range c.Subs {
			b = binary.BigEndian.AppendUint32(b, uint32(len(sub)))
		}
	}
	b = append(two(append(b, 0xff), uint16(c.Size)), 0x00)
	for _, t := range c.Types {
		b = two(append(b, byte(t.In), byte(t.Out)), uint16(t.Most))
	}
	b = append(b, bytes.Join(c.Codes, nil)...)
	b = append(b, bytes.Join(c.Subs, nil)...)
	return append(b, c.Data...)
}

// spot is a field of a container's bytes: wrong is what a number that is not right there is told.
type spot struct {
	at, wide int
	wrong    api.Errno
	right    func(n int) bool
}

func one(want int) func(n int) bool { return func(n int) bool { return n == want } }
func free(n int) bool               { return true }
func some(n int) bool               { return n > 0 }

// from lays fields one behind the other.
func from(at int, fields ...spot) []spot {
	for i := range fields {
		fields[i].at = at
		at += fields[i].wide
	}
	return fields
}

// header is the fields of a container's header: the table of 5.3, row by row.
func header(c api.Container) []spot {
	n := len(c.Codes)
	out := []spot{
		{0, 1, api.ErrMagic, one(0xef)},
		{0, 1, api.ErrMagic, one(0x00)},
		{0, 1, api.ErrVersion, one(0x01)},
		{0, 1, api.ErrKind, one(0x01)},
		{0, 2, api.ErrTypes, func(n int) bool { return n%4 == 0 && n/4 >= 1 && n/4 <= 1024 }},
		{0, 1, api.ErrKind, one(0x02)},
		{0, 2, api.ErrCodes, one(n)},
	}
	for range n {
		out = append(out, spot{0, 2, api.ErrNone, some})
	}
	out = append(out, spot{0, 1, api.ErrKind, func(n int) bool { return n == 0x03 || n == 0xff }})
	if m := len(c.Subs); m > 0 {
		out = append(out, spot{0, 2, api.ErrSubs, func(n int) bool { return n >= 1 && n <= 256 }})
		for range m {
			out = append(out, spot{0, 4, api.ErrNone, some})
		}
		out = append(out, spot{0, 1, api.ErrKind, one(0xff)})
	}
	return from(0, append(out, spot{0, 2, api.OK, free}, spot{0, 1, api.ErrKind, one(0x00)})...)
}

// types is the fields of a container's types, which begin at a place.
func types(at, n int) []spot {
	out := []spot{{0, 1, api.ErrType, one(0)}, {0, 1, api.ErrType, one(128)}}
	for i := range n {
		if i > 0 {
			out = append(out, spot{0, 1, api.ErrType, func(n int) bool { return n <= 127 }}, spot{0, 1, api.ErrType, func(n int) bool { return n <= 128 }})
		}
		out = append(out, spot{0, 2, api.ErrType, func(n int) bool { return n <= 1023 }})
	}
	return from(at, out...)
}

// end is where a field ends.
func (s spot) end() int { return s.at + s.wide }

// number is what stands in a field.
func (s spot) number(b []byte) int {
	n := 0
	for _, x := range b[s.at:s.end()] {
		n = 256*n + int(x)
	}
	return n
}

// turned is the bytes with another number in the field.
func (s spot) turned(b []byte, n int) []byte {
	b = slices.Clone(b)
	for i := s.end() - 1; i >= s.at; i-- {
		b[i] = byte(n)
		n >>= 8
	}
	return b
}

// look asks a field: is it there, and right?
func (s spot) look(b []byte) (api.Errno, int) {
	if s.end() > len(b) {
		return api.ErrCut, len(b)
	}
	if !s.right(s.number(b)) {
		return s.wrong, s.at
	}
	return api.OK, 0
}

// told is what Parse is to tell of any bytes. It asks for the header of a container with as many parts as the bytes have told so far: what they tell turns only the fields behind.
func told(b []byte, open bool) (api.Errno, int) {
	var c api.Container
	c.Codes = make([][]byte, 1)
	fields := header(c)
	for i := 0; i < len(fields); i++ {
		if wrong, at := fields[i].look(b); wrong != api.OK {
			return wrong, at
		}
		n := fields[i].number(b)
		switch {
		case i == 4:
			c.Codes = make([][]byte, n/4)
		case i == 7+len(c.Codes) && n == 0x03:
			c.Subs = make([][]byte, 1)
		case i == 8+len(c.Codes) && len(c.Subs) > 0:
			c.Subs = make([][]byte, n)
		default:
			continue
		}
		fields = header(c)
	}
	return toldBehind(b, open, c)
}

// toldBehind is what is told of all behind a header that is right.
func toldBehind(b []byte, open bool, c api.Container) (api.Errno, int) {
	fields := header(c)
	last := fields[len(fields)-1]
	k := last.end() + 4*len(c.Codes)
	for _, s := range fields[7 : 7+len(c.Codes)] {
		k += s.number(b)
	}
	if len(c.Subs) > 0 {
		for _, s := range fields[9+len(c.Codes) : 9+len(c.Codes)+len(c.Subs)] {
			k += s.number(b)
		}
	}
	whole := k + fields[len(fields)-2].number(b)
	switch {
	case len(b) < k, !open && len(b) < whole:
		return api.ErrCut, len(b)
	case len(b) > whole:
		return api.ErrTail, whole
	}
	for _, s := range types(last.end(), len(c.Codes)) {
		if wrong, at := s.look(b); wrong != api.OK {
			return wrong, at
		}
	}
	return api.OK, 0
}

// same: are they one container? No list is as good as an empty one.
func same(a, b api.Container) bool {
	return slices.Equal(a.Types, b.Types) && slices.EqualFunc(a.Codes, b.Codes, bytes.Equal) && slices.EqualFunc(a.Subs, b.Subs, bytes.Equal) && bytes.Equal(a.Data, b.Data) && a.Size == b.Size
}

// short is enough of some bytes to tell them by.
func short(b []byte) string { return hex.EncodeToString(b[:min(len(b), 60)]) }

// wantTaken: Parse reads the bytes as this container.
func wantTaken(t *testing.T, b []byte, open bool, want api.Container) {
	t.Helper()
	c, r := container.Parse(b, open)
	if r.Code != api.OK || len(r.Path) != 0 || r.Section != 0 || r.At != 0 || !same(c, want) {
		t.Fatalf("Parse(%d bytes %s, %v): %+v, or not the container", len(b), short(b), open, r)
	}
}

// wantRefused: Parse refuses the bytes, with nothing beside the error and its place.
func wantRefused(t *testing.T, b []byte, open bool, wrong api.Errno, at int) {
	t.Helper()
	c, r := container.Parse(b, open)
	if r.Code != wrong || r.At != at || len(r.Path) != 0 || r.Section != 0 || !same(c, api.Container{}) {
		t.Fatalf("Parse(%d bytes %s, %v): %+v (with a container: %v), want %v at %d", len(b), short(b), open, r, !same(c, api.Container{}), wrong, at)
	}
}

// wantTold: Parse tells of the bytes what the model does; true: it takes them.
func wantTold(t *testing.T, b []byte, open bool) bool {
	t.Helper()
	if wrong, at := told(b, open); wrong != api.OK {
		wantRefused(t, b, open, wrong, at)
		return false
	}
	c, r := container.Parse(b, open)
	if r.Code != api.OK || !bytes.Equal(laid(c), b) {
		t.Fatalf("Parse(%d bytes %s, %v): %+v, or other bytes", len(b), short(b), open, r)
	}
	return true
}

// wantCheck: what Check answers; Serialize and Size refuse likewise, with nothing beside.
func wantCheck(t *testing.T, what string, c api.Container, want api.Errno) {
	t.Helper()
	if wrong := container.Check(c); wrong != want {
		t.Errorf("Check, %s: %v, want %v", what, wrong, want)
	}
	b, wrong := container.Serialize(c)
	n, other := container.Size(c)
	if wrong != want || other != want || want != api.OK && (len(b) != 0 || n != 0) {
		t.Errorf("%s: Serialize %d bytes, %v, Size %d, %v, want %v", what, len(b), wrong, n, other, want)
	}
}
