package mach

import "vouch/api"

// lastWord is the stack's last place: MaxStack is a power of two, so & with it is modulo MaxStack, below 0 too.
const lastWord = api.MaxStack - 1

// Stack is a stack of words. The n-th: from the top, 1 the topmost.
type Stack struct {
	words [api.MaxStack]api.Word
	size  int // may be below 0, and above MaxStack
}

// NewStack is an empty one.
func NewStack() *Stack { return &Stack{} }

// Len is how many words are on it, by what was put and taken: fewer than none, and more than MaxStack, if nobody looked.
func (s *Stack) Len() int { return s.size }

// Words is all of them, the topmost last; of more than MaxStack the topmost MaxStack.
func (s *Stack) Words() []api.Word {
	out := make([]api.Word, min(max(s.size, 0), api.MaxStack))
	first := s.place(len(out))
	ahead := copy(out, s.words[first:])
	copy(out[ahead:], s.words[:first])
	return out
}

// Push puts a word on it, if there is room.
func (s *Stack) Push(x api.Word) api.Errno {
	if s.size >= api.MaxStack {
		return api.ErrOverflow
	}
	s.Put(x)
	return api.OK
}

// Pop takes the topmost word, if there is one.
func (s *Stack) Pop() (api.Word, api.Errno) {
	if s.size < 1 {
		return api.Word{}, api.ErrUnderflow
	}
	return s.Take(), api.OK
}

// At is the n-th word, if there is one.
func (s *Stack) At(n int) (api.Word, api.Errno) {
	if e := s.look(n); e != api.OK {
		return api.Word{}, e
	}
	return s.Peek(n), api.OK
}

// Dup puts the n-th word on it once more, if there is one, and room.
func (s *Stack) Dup(n int) api.Errno {
	if e := s.look(n); e != api.OK {
		return e
	}
	if s.size >= api.MaxStack {
		return api.ErrOverflow
	}
	s.Again(n)
	return api.OK
}

// Swap lets the topmost word and the n-th below it change places, if they are there.
func (s *Stack) Swap(n int) api.Errno {
	if n < 1 {
		return api.ErrArg
	}
	if n >= s.size {
		return api.ErrUnderflow
	}
	s.Turn(1, n+1)
	return api.OK
}

// Exchange lets the n-th word below the topmost and the m-th below that change places, if they are there.
func (s *Stack) Exchange(n, m int) api.Errno {
	if n < 1 || m < 1 {
		return api.ErrArg
	}
	// n + m may be above any int: what is left below the n-th is asked instead.
	if n >= s.size || m >= s.size-n {
		return api.ErrUnderflow
	}
	s.Turn(n+1, n+m+1)
	return api.OK
}

// Put puts a word on it.
func (s *Stack) Put(x api.Word) {
	s.words[s.size&lastWord] = x
	s.size++
}

// Take takes the topmost word.
func (s *Stack) Take() api.Word {
	s.size--
	return s.words[s.size&lastWord]
}

// Peek is the n-th word.
func (s *Stack) Peek(n int) api.Word { return s.words[s.place(n)] }

// Again puts the n-th word on it once more.
func (s *Stack) Again(n int) { s.Put(s.Peek(n)) }

// Turn lets the n-th word and the m-th change places.
func (s *Stack) Turn(n, m int) {
	a, b := s.place(n), s.place(m)
	s.words[a], s.words[b] = s.words[b], s.words[a]
}

// place is where the n-th word stands. n is cut down first: no difference is beyond any int then.
func (s *Stack) place(n int) int { return (s.size - (n & lastWord)) & lastWord }

// look: is there an n-th word?
func (s *Stack) look(n int) api.Errno {
	if n < 1 {
		return api.ErrArg
	}
	if n > s.size {
		return api.ErrUnderflow
	}
	return api.OK
}
