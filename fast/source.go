package fast

import (
	"vouch/api"
	"vouch/container"
	"vouch/valid"
)

// source is what a frame's container is taken from. That the steps need not look hangs on it: wherever they lead, there is a byte.
type source interface {
	sections() int
	typeOf(section int) api.Type
	codeOf(section int) []byte
	data() []byte
	// nested is how long the nested container of that number is, and whether an account can be made with it.
	nested(sub int) (int, bool)
	// laid is the bytes of the account's code out of a nested container; false: there can be none.
	laid(sub int, behind []byte) ([]byte, bool)
}

// vouched is valid code: its steps lead to its own bytes alone.
type vouched struct{ code *valid.Code }

func (v vouched) sections() int { return v.code.Sections() }

func (v vouched) typeOf(section int) api.Type {
	t, _ := v.code.Type(section)
	return t
}

func (v vouched) codeOf(section int) []byte { return v.code.Section(section) }

func (v vouched) data() []byte { return v.code.Data() }

func (v vouched) nested(sub int) (int, bool) {
	made, _ := v.code.Sub(sub)
	return len(made.Bytes()), true
}

func (v vouched) laid(sub int, behind []byte) ([]byte, bool) {
	code, wrong := v.code.Lay(sub, behind)
	if wrong != api.OK {
		return nil, false
	}
	return code.Bytes(), true
}

// bare is any container.
type bare struct{ whole api.Container }

// lastPlace is the last place there is: & with it brings any number to its place.
const lastPlace = 1<<16 - 1

// mostImmediate is how many immediate bytes an instruction may have: those of the longest table.
const mostImmediate = 1 + 2*256

func (b bare) sections() int { return len(b.whole.Codes) }

func (b bare) typeOf(section int) api.Type { return b.whole.Types[section] }

// codeOf lays the zeros behind a section down once: no step has to ask then whether it reads behind the end.
func (b bare) codeOf(section int) []byte {
	all := make([]byte, lastPlace+1+mostImmediate)
	copy(all, b.whole.Codes[section])
	return all
}

func (b bare) data() []byte { return b.whole.Data }

func (b bare) nested(sub int) (int, bool) {
	size := 0
	if sub < len(b.whole.Subs) {
		size = len(b.whole.Subs[sub])
	}
	_, parsed := b.parsed(sub, false)
	return size, parsed
}

func (b bare) laid(sub int, behind []byte) ([]byte, bool) {
	c, parsed := b.parsed(sub, true)
	if !parsed {
		return nil, false
	}
	c, wrong := container.Lay(c, behind)
	if size, _ := container.Size(c); wrong != api.OK || size > api.MaxDeploy {
		return nil, false
	}
	code, _ := container.Serialize(c)
	return code, true
}

// parsed is the nested container of that number; false: there is none, or it is none.
func (b bare) parsed(sub int, open bool) (api.Container, bool) {
	if sub >= len(b.whole.Subs) {
		return api.Container{}, false
	}
	c, no := container.Parse(b.whole.Subs[sub], open)
	return c, no.Code == api.OK
}
