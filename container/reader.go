package container

import (
	"bytes"

	"vouch/api"
)

// reader goes through a container's bytes. Whatever it finds wrong it throws, so that no reading has to ask whether the one ahead of it went well.
type reader struct {
	bytes []byte
	at    int // where the next field begins
}

// giveUp throws what Parse answers.
func giveUp(why api.Errno, at int) {
	panic(api.Reject{Code: why, At: at})
}

// header reads all up to the types.
func (r *reader) header() header {
	var h header
	r.fixed(magicFirst, api.ErrMagic)
	r.fixed(magicSecond, api.ErrMagic)
	r.fixed(version, api.ErrVersion)
	r.fixed(kindTypes, api.ErrKind)
	types := r.field(countBytes, api.ErrTypes, func(n uint64) bool {
		return n > 0 && n%typeBytes == 0 && n <= typeBytes*api.MaxSections
	})
	r.fixed(kindCodes, api.ErrKind)
	sections := r.field(countBytes, api.ErrCodes, func(n uint64) bool { return n == types/typeBytes })
	h.codes = r.lengths(sections, codeBytes)
	kind := r.field(kindBytes, api.ErrKind, func(n uint64) bool { return n == kindSubs || n == kindData })
	if kind == kindSubs {
		subs := r.field(countBytes, api.ErrSubs, func(n uint64) bool { return n > 0 && n <= api.MaxSubs })
		h.subs = r.lengths(subs, subBytes)
		r.fixed(kindData, api.ErrKind)
	}
	h.data = r.number(dataBytes)
	r.fixed(kindEnd, api.ErrKind)
	return h
}

// fixed reads a byte that can be no other there.
func (r *reader) fixed(want uint64, why api.Errno) {
	r.field(kindBytes, why, func(n uint64) bool { return n == want })
}

// field reads a field for which not every number is right; why is what is told of a wrong one.
func (r *reader) field(wide int, why api.Errno, right func(n uint64) bool) uint64 {
	from := r.at
	n := r.number(wide)
	if !right(n) {
		giveUp(why, from)
	}
	return n
}

// number reads a field of so many bytes.
func (r *reader) number(wide int) uint64 {
	if len(r.bytes)-r.at < wide {
		giveUp(api.ErrCut, len(r.bytes))
	}
	var n uint64
	for _, b := range r.bytes[r.at : r.at+wide] {
		n = n<<8 | uint64(b)
	}
	r.at += wide
	return n
}

// lengths reads so many lengths, of so many bytes each.
func (r *reader) lengths(many uint64, wide int) []uint64 {
	out := make([]uint64, many)
	for i := range out {
		out[i] = r.field(wide, api.ErrNone, func(n uint64) bool { return n > 0 })
	}
	return out
}

// measure holds the length of all bytes against what the header says of it.
func (r *reader) measure(h header, open bool) {
	least := uint64(r.at) + h.behind()
	whole := least + h.data
	if !open {
		least = whole
	}
	there := uint64(len(r.bytes))
	if there < least {
		giveUp(api.ErrCut, len(r.bytes))
	}
	if there > whole {
		giveUp(api.ErrTail, int(whole))
	}
}

// body reads all behind the header. The bytes have been measured: those that it asks for are there. Each part is read in a step of its own: within one expression Go leaves open whether r.at is read ahead of a call that moves it.
func (r *reader) body(h header) api.Container {
	c := api.Container{Size: int(h.data)}
	c.Types = r.types(len(h.codes))
	c.Codes = r.pieces(h.codes)
	c.Subs = r.pieces(h.subs)
	c.Data = bytes.Clone(r.bytes[r.at:])
	return c
}

// types reads the types of so many sections.
func (r *reader) types(many int) []api.Type {
	out := make([]api.Type, many)
	parts := typeParts()
	for section := range out {
		for _, p := range parts {
			n := r.field(p.wide, api.ErrType, func(n uint64) bool { return p.right(section, int(n)) })
			*p.of(&out[section]) = int(n)
		}
	}
	return out
}

// pieces reads as many pieces as there are lengths.
func (r *reader) pieces(lengths []uint64) [][]byte {
	out := make([][]byte, len(lengths))
	for i, length := range lengths {
		end := r.at + int(length)
		out[i] = bytes.Clone(r.bytes[r.at:end])
		r.at = end
	}
	return out
}
