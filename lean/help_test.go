package lean_test

import (
	"bytes"
	"encoding/hex"
	"fmt"
	"slices"
	"strings"
	"testing"

	"vouch/api"
	"vouch/container"
	"vouch/flow"
	"vouch/lean"
	"vouch/valid"
)

const never = api.NoReturn

// raw is bytes written in hexadecimal, with spaces or without.
func raw(text string) []byte {
	b, wrong := hex.DecodeString(strings.ReplaceAll(text, " ", ""))
	if wrong != nil {
		panic(wrong)
	}
	return b
}

func join(parts ...[]byte) []byte { return bytes.Join(parts, nil) }

// times is a text so many times.
func times(text string, many int) []byte { return bytes.Repeat(raw(text), many) }

// typed is types by their numbers, three of each, behind that of the first section, of which only Most is given.
func typed(most int, numbers ...int) []api.Type {
	types := []api.Type{{Out: never, Most: most}}
	for ; len(numbers) > 0; numbers = numbers[3:] {
		types = append(types, api.Type{In: numbers[0], Out: numbers[1], Most: numbers[2]})
	}
	return types
}

// of is a container with these types and sections.
func of(types []api.Type, codes ...string) api.Container {
	c := api.Container{Types: types}
	for _, text := range codes {
		c.Codes = append(c.Codes, raw(text))
	}
	return c
}

// one is a container of one section.
func one(most int, text string) api.Container { return of(typed(most), text) }

// high declares the greatest heights that a container's sections have, as far as they have some.
func high(c api.Container) api.Container {
	c.Types = slices.Clone(c.Types)
	for s, code := range slices.Backward(c.Codes) {
		heights, _, _ := flow.Heights(c.Types, s, code)
		c.Types[s].Most = flow.Most(heights)
	}
	return c
}

// fit is a container of one section, with the height that it has.
func fit(parts ...[]byte) api.Container {
	return high(api.Container{Types: typed(0), Codes: [][]byte{join(parts...)}})
}

// with is the container with these nested in it.
func with(c api.Container, subs ...[]byte) api.Container {
	c.Subs = slices.Concat(c.Subs, subs)
	return c
}

// bytesOf is a container's bytes.
func bytesOf(c api.Container) []byte {
	b, wrong := container.Serialize(c)
	if wrong != api.OK {
		panic(wrong)
	}
	return b
}

// stops is the bytes of the least container that runs, and stuck those of the least one for both kinds.
func stops() []byte { return bytesOf(one(0, "00")) }
func stuck() []byte { return bytesOf(one(0, "fe")) }

// copyOf is the container in memory of its own.
func copyOf(c api.Container) api.Container {
	c.Types, c.Codes, c.Subs, c.Data = slices.Clone(c.Types), slices.Clone(c.Codes), slices.Clone(c.Subs), slices.Clone(c.Data)
	for i, b := range c.Codes {
		c.Codes[i] = slices.Clone(b)
	}
	for i, b := range c.Subs {
		c.Subs[i] = slices.Clone(b)
	}
	return c
}

// lists: are two lists of bytes the same?
func lists(x, y [][]byte) bool { return slices.EqualFunc(x, y, bytes.Equal) }

// same: are two containers the same?
func same(x, y api.Container) bool {
	return slices.Equal(x.Types, y.Types) && lists(x.Codes, y.Codes) && lists(x.Subs, y.Subs) && bytes.Equal(x.Data, y.Data) && x.Size == y.Size
}

// sameNo: do two refusals say the same?
func sameNo(x, y api.Reject) bool {
	return x.Code == y.Code && slices.Equal(x.Path, y.Path) && x.Section == y.Section && x.At == y.At
}

// none: is there nothing in a container?
func none(c api.Container) bool { return same(c, api.Container{}) }

// told is a container in a line.
func told(c api.Container) string {
	out := fmt.Sprint(c.Types)
	for _, b := range c.Codes {
		if len(b) > 200 {
			b = b[:200]
		}
		out += fmt.Sprintf(" {% x}", b)
	}
	return out + fmt.Sprintf(" %d nested, data %x of %d", len(c.Subs), c.Data, c.Size)
}

// leaned is what Lean makes of a container that is valid.
func leaned(t testing.TB, c api.Container, kind int) api.Container {
	t.Helper()
	if no := valid.Judge(c, kind); no.Code != api.OK {
		t.Fatalf("%s is not valid: %+v", told(c), no)
	}
	d, no := lean.Lean(c, kind)
	if !sameNo(no, api.Reject{}) {
		t.Fatalf("%s: refused: %+v", told(c), no)
	}
	return d
}

// turns holds that a container is turned into just this one. (Where more than one may be answered, it is what this program answers; all that must hold is held too.)
func turns(t testing.TB, c, want api.Container) {
	t.Helper()
	d := held(t, c, api.Runtime)
	if !same(d, want) {
		t.Fatalf("%s: turned into %s, not %s", told(c), told(d), told(want))
	}
	goesAlike(t, draw(12), c, d, 4)
}

// stays holds that a container is lean.
func stays(t testing.TB, c api.Container) {
	t.Helper()
	turns(t, c, c)
	if !lean.Is(c, api.Runtime) {
		t.Fatalf("%s: is not lean", told(c))
	}
}
