package mach

import (
	"vouch/api"
	"vouch/word"
)

// wordBytes is how many bytes a word has: memory is a multiple of it long.
const wordBytes = 32

// Memory is a frame's memory.
type Memory struct{ bytes []byte }

// NewMemory is an empty one.
func NewMemory() *Memory { return &Memory{} }

// Len is how many bytes it has.
func (m *Memory) Len() int { return len(m.bytes) }

// Reach is how many bytes it has once it reaches over n bytes at a place; false: more than there may be.
func (m *Memory) Reach(at, n api.Word) (int, bool) {
	if word.IsZero(n) {
		return m.Len(), true
	}
	first, there := within(at)
	count, few := within(n)
	if !there || !few || first+count > api.MaxMemory {
		return 0, false
	}
	return max(m.Len(), rounded(first+count)), true
}

// Grow makes it so long, if it is shorter.
func (m *Memory) Grow(to int) api.Errno {
	if to < 0 {
		return api.ErrArg
	}
	if to > api.MaxMemory {
		return api.ErrMemory
	}
	// By append, so that growing word by word does not copy all of it each time.
	if more := rounded(to) - m.Len(); more > 0 {
		m.bytes = append(m.bytes, make([]byte, more)...)
	}
	return api.OK
}

// Load is the 32 bytes from at on as a word.
func (m *Memory) Load(at int) (api.Word, api.Errno) {
	if e := m.look(at, wordBytes); e != api.OK {
		return api.Word{}, e
	}
	return word.FromBytes(m.bytes[at : at+wordBytes])
}

// Store lays the 32 bytes of a word down from at on.
func (m *Memory) Store(at int, x api.Word) api.Errno {
	b := word.Bytes(x)
	return m.Write(at, b[:])
}

// Store8 lays a byte down.
func (m *Memory) Store8(at int, b byte) api.Errno {
	if e := m.look(at, 1); e != api.OK {
		return e
	}
	m.bytes[at] = b
	return api.OK
}

// Read is the n bytes from at on.
func (m *Memory) Read(at, n int) ([]byte, api.Errno) {
	if e := m.look(at, n); e != api.OK || n == 0 {
		return nil, e
	}
	out := make([]byte, n)
	copy(out, m.bytes[at:])
	return out, api.OK
}

// Write lays bytes down from at on.
func (m *Memory) Write(at int, b []byte) api.Errno {
	if e := m.look(at, len(b)); e != api.OK || len(b) == 0 {
		return e
	}
	copy(m.bytes[at:], b)
	return api.OK
}

// Move lays the n bytes from from on, as they are now, down from to on.
func (m *Memory) Move(to, from, n int) api.Errno {
	if to < 0 || from < 0 || n < 0 {
		return api.ErrArg
	}
	if e := m.look(max(to, from), n); e != api.OK || n == 0 {
		return e
	}
	copy(m.bytes[to:], m.bytes[from:from+n])
	return api.OK
}

// look: has it n bytes from at on? Of no bytes it has them anywhere.
func (m *Memory) look(at, n int) api.Errno {
	if at < 0 || n < 0 {
		return api.ErrArg
	}
	// at + n may be above any int: what is left behind at is asked instead.
	if n > 0 && (at >= m.Len() || n > m.Len()-at) {
		return api.ErrMemory
	}
	return api.OK
}

// within is a word as a number, if it is at most MaxMemory.
func within(x api.Word) (int, bool) {
	n, ok := word.Uint(x)
	if !ok || n > api.MaxMemory {
		return 0, false
	}
	return int(n), true
}

// rounded is the least multiple of 32 that is at least n, of an n up to MaxMemory.
func rounded(n int) int { return (n + wordBytes - 1) / wordBytes * wordBytes }
