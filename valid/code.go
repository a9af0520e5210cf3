package valid

import (
	"slices"
	"sync"

	"vouch/api"
	"vouch/container"
	"vouch/flow"
)

// Code is a container that is valid. It never changes.
type Code struct {
	whole   api.Container
	kind    int
	uses    []use
	heights []heights // one of each section
}

// heights are those of a section, from when they are asked for first.
type heights struct {
	once sync.Once
	told []api.Height
}

// codeOf is the code of a whole container that is known to be valid as a kind, and that nobody else holds.
func codeOf(c api.Container, kind int, uses []use) *Code {
	return &Code{whole: c, kind: kind, uses: uses, heights: make([]heights, len(c.Codes))}
}

// Bytes are the container's bytes.
func (c *Code) Bytes() []byte {
	b, _ := container.Serialize(c.whole)
	return b
}

// Kind is what it is valid as.
func (c *Code) Kind() int { return c.kind }

// Sections is how many sections it has.
func (c *Code) Sections() int { return len(c.whole.Codes) }

// Type is that of a section.
func (c *Code) Type(section int) (api.Type, bool) {
	if !c.has(section) {
		return api.Type{}, false
	}
	return c.whole.Types[section], true
}

// Section is the bytes of a section.
func (c *Code) Section(section int) []byte {
	if !c.has(section) {
		return nil
	}
	return slices.Clone(c.whole.Codes[section])
}

// Heights are those of a section.
func (c *Code) Heights(section int) []api.Height {
	if !c.has(section) {
		return nil
	}
	h := &c.heights[section]
	h.once.Do(func() {
		h.told, _, _ = flow.Heights(c.whole.Types, section, c.whole.Codes[section])
	})
	return slices.Clone(h.told)
}

// Data are its data.
func (c *Code) Data() []byte { return slices.Clone(c.whole.Data) }

// Subs is how many nested containers it has.
func (c *Code) Subs() int { return len(c.whole.Subs) }

// Sub is a nested container to make an account with.
func (c *Code) Sub(i int) (*Code, api.Errno) {
	if !c.named(i).made {
		return nil, api.ErrSub
	}
	// It parses, and needs no look: both were asked when this code was judged (C7).
	sub, _ := container.Parse(c.whole.Subs[i], false)
	return codeOf(sub, api.Init, usesOf(sub)), api.OK
}

// Lay is the code of an account out of a nested container, with more data behind its own.
func (c *Code) Lay(i int, behind []byte) (*Code, api.Errno) {
	if !c.named(i).laid {
		return nil, api.ErrSub
	}
	sub, _ := container.Parse(c.whole.Subs[i], true)
	laid, wrong := container.Lay(sub, behind)
	if wrong != api.OK {
		return nil, wrong
	}
	if size, _ := container.Size(laid); size > api.MaxDeploy {
		return nil, api.ErrLong
	}
	// The clauses ask of the data only that what is declared does not become less: it is as valid as it was open.
	return codeOf(laid, api.Runtime, usesOf(laid)), api.OK
}

// has: is there a section of this number?
func (c *Code) has(section int) bool { return section >= 0 && section < len(c.whole.Codes) }

// named is which instructions name a nested container; none, if there is none of this number.
func (c *Code) named(i int) use {
	if i < 0 || i >= len(c.uses) {
		return use{}
	}
	return c.uses[i]
}
