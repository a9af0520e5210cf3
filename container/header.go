package container

import "vouch/api"

// The bytes that a container begins with.
const (
	magicFirst  = 0xef
	magicSecond = 0x00
	version     = 0x01
)

// The kinds of the header's parts: the byte that each begins with. The part that closes it is its kind alone.
const (
	kindEnd = iota
	kindTypes
	kindCodes
	kindSubs
	kindData = 0xff
)

// How many bytes the header's fields have, and a type.
const (
	kindBytes  = 1 // and of each that is fixed like a kind
	countBytes = 2
	codeBytes  = 2 // of a section's length
	subBytes   = 4 // of a nested container's length
	dataBytes  = 2 // of the declared length
	typeBytes  = 4
)

// The limits that api does not name: the most that a length of so many bytes can say.
const (
	maxSub  = 1<<(8*subBytes) - 1
	maxData = 1<<(8*dataBytes) - 1
)

// header is what a container's header says. Its numbers have 64 bits, for a header may speak of more bytes than an int of 32 bits can count.
type header struct {
	codes []uint64 // how long each section is
	subs  []uint64 // how long each nested container is
	data  uint64   // how long the data are declared to be
}

// headerOf is the header of a container that may be.
func headerOf(c api.Container) header {
	return header{codes: lengths(c.Codes), subs: lengths(c.Subs), data: uint64(c.Size)}
}

// lengths are those of a list's pieces.
func lengths(pieces [][]byte) []uint64 {
	out := make([]uint64, len(pieces))
	for i, piece := range pieces {
		out[i] = uint64(len(piece))
	}
	return out
}

// behind is how many bytes stand between the header and the data.
func (h header) behind() uint64 {
	n := typeBytes * uint64(len(h.codes))
	for _, length := range h.codes {
		n += length
	}
	for _, length := range h.subs {
		n += length
	}
	return n
}

// write puts the header's bytes behind b.
func (h header) write(b []byte) []byte {
	b = append(b, magicFirst, magicSecond, version)
	b = writeNumber(append(b, kindTypes), countBytes, typeBytes*uint64(len(h.codes)))
	b = writeLengths(append(b, kindCodes), codeBytes, h.codes)
	if len(h.subs) > 0 {
		b = writeLengths(append(b, kindSubs), subBytes, h.subs)
	}
	b = writeNumber(append(b, kindData), dataBytes, h.data)
	return append(b, kindEnd)
}

// writeLengths puts how many there are, and each of them, behind b.
func writeLengths(b []byte, wide int, all []uint64) []byte {
	b = writeNumber(b, countBytes, uint64(len(all)))
	for _, length := range all {
		b = writeNumber(b, wide, length)
	}
	return b
}

// writeNumber puts a number of so many bytes behind b.
func writeNumber(b []byte, wide int, n uint64) []byte {
	for i := range wide {
		b = append(b, byte(n>>(8*(wide-1-i))))
	}
	return b
}
