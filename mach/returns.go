package mach

import "vouch/api"

// lastReturn is the return stack's last place: as lastWord of the stack.
const lastReturn = api.MaxReturns - 1

// Returns is a stack of places to return to.
type Returns struct {
	places [api.MaxReturns]api.Place
	size   int // may be below 0, and above MaxReturns
}

// NewReturns is an empty one.
func NewReturns() *Returns { return &Returns{} }

// Len is how many there are, by what was put and taken.
func (r *Returns) Len() int { return r.size }

// Push puts a place on it, if there is room.
func (r *Returns) Push(p api.Place) api.Errno {
	if r.size >= api.MaxReturns {
		return api.ErrOverflow
	}
	r.Put(p)
	return api.OK
}

// Pop takes the topmost place, if there is one.
func (r *Returns) Pop() (api.Place, api.Errno) {
	if r.size < 1 {
		return api.Place{}, api.ErrUnderflow
	}
	return r.Take(), api.OK
}

// Put puts a place on it.
func (r *Returns) Put(p api.Place) {
	r.places[r.size&lastReturn] = p
	r.size++
}

// Take takes the topmost place.
func (r *Returns) Take() api.Place {
	r.size--
	return r.places[r.size&lastReturn]
}
