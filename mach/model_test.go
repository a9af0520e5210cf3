package mach_test

import (
	"math"
	"math/big"
	"slices"
	"testing"

	"vouch/api"
	"vouch/mach"
)

// The model of a stack: numbers of words are plain numbers, of any size.
type stackModel struct {
	places [api.MaxStack]api.Word
	size   int
}

// place is that of word number Len - n: what is left of a plain number, divided by MaxStack, is never below 0.
func (m *stackModel) place(n int) int { return placeOf(m.size, n, api.MaxStack) }

func placeOf(size, n, places int) int {
	number := new(big.Int).Sub(big.NewInt(int64(size)), big.NewInt(int64(n)))
	return int(number.Mod(number, big.NewInt(int64(places))).Int64())
}

func (m *stackModel) peek(n int) api.Word { return m.places[m.place(n)] }

func (m *stackModel) put(x api.Word) {
	m.places[m.place(0)] = x
	m.size++
}

func (m *stackModel) take() api.Word {
	x := m.peek(1)
	m.size--
	return x
}

func (m *stackModel) turn(n, k int) {
	x, y := m.peek(n), m.peek(k)
	m.places[m.place(n)], m.places[m.place(k)] = y, x
}

// words: from word number 0 on, or from the number of the MaxStack-th word on.
func (m *stackModel) words() []api.Word {
	var l []api.Word
	for n := min(m.size, api.MaxStack); n >= 1; n-- {
		l = append(l, m.peek(n))
	}
	return l
}

func (m *stackModel) push(x api.Word) api.Errno {
	if m.size >= api.MaxStack {
		return api.ErrOverflow
	}
	m.put(x)
	return api.OK
}

func (m *stackModel) pop() (api.Word, api.Errno) {
	if m.size < 1 {
		return api.Word{}, api.ErrUnderflow
	}
	return m.take(), api.OK
}

// asked is what At, Dup, Swap and Exchange say of their numbers: which may not be, and whether so many words are there, with some more.
func (m *stackModel) asked(more int, numbers ...int) api.Errno {
	sum := big.NewInt(int64(more))
	for _, n := range numbers {
		if n < 1 {
			return api.ErrArg
		}
		sum.Add(sum, big.NewInt(int64(n)))
	}
	if sum.Cmp(big.NewInt(int64(m.size))) > 0 {
		return api.ErrUnderflow
	}
	return api.OK
}

func (m *stackModel) at(n int) (api.Word, api.Errno) {
	if e := m.asked(0, n); e != api.OK {
		return api.Word{}, e
	}
	return m.peek(n), api.OK
}

func (m *stackModel) dup(n int) api.Errno {
	if e := m.asked(0, n); e != api.OK {
		return e
	}
	return m.push(m.peek(n))
}

func (m *stackModel) swap(n int) api.Errno {
	e := m.asked(1, n)
	if e == api.OK {
		m.turn(1, n+1)
	}
	return e
}

func (m *stackModel) exchange(n, k int) api.Errno {
	e := m.asked(1, n, k)
	if e == api.OK {
		m.turn(n+1, n+k+1)
	}
	return e
}

// holdStack holds a stack against the model: all that it tells, and every one of its places.
func holdStack(t *testing.T, s *mach.Stack, m *stackModel) {
	t.Helper()
	if s.Len() != m.size {
		t.Fatalf("Len %d, not %d", s.Len(), m.size)
	}
	if got, want := s.Words(), m.words(); !slices.Equal(got, want) {
		t.Fatalf("of %d: Words %v, not %v", m.size, got, want)
	}
	for n := 1; n <= api.MaxStack; n++ {
		if got, want := s.Peek(n), m.peek(n); got != want {
			t.Fatalf("of %d: Peek(%d) %v, not %v", m.size, n, got, want)
		}
	}
}

// stackOf is a stack with every place filled, each with another word, and with this Len; and the model of it.
func stackOf(size int) (*mach.Stack, *stackModel) {
	s, m := mach.NewStack(), &stackModel{}
	for i := range api.MaxStack {
		s.Put(odd(i))
		m.put(odd(i))
	}
	for m.size < size {
		s.Put(odd(m.size))
		m.put(odd(m.size))
	}
	for m.size > size {
		s.Take()
		m.take()
	}
	return s, m
}

// odd: words that are none of them 0 and all unlike, in all of their parts.
func odd(i int) api.Word {
	x := uint64(i)
	return api.Word{x + 1, x<<8 | 5, ^x, x * 0x9e3779b97f4a7c15}
}

// The model of a return stack.
type returnsModel struct {
	places [api.MaxReturns]api.Place
	size   int
}

func (m *returnsModel) put(p api.Place) {
	m.places[placeOf(m.size, 0, api.MaxReturns)] = p
	m.size++
}

func (m *returnsModel) take() api.Place {
	p := m.places[placeOf(m.size, 1, api.MaxReturns)]
	m.size--
	return p
}

func (m *returnsModel) push(p api.Place) api.Errno {
	if m.size >= api.MaxReturns {
		return api.ErrOverflow
	}
	m.put(p)
	return api.OK
}

func (m *returnsModel) pop() (api.Place, api.Errno) {
	if m.size < 1 {
		return api.Place{}, api.ErrUnderflow
	}
	return m.take(), api.OK
}

// The model of memory: bytes of which each is found alone.
type memoryModel struct {
	bytes map[int]byte
	size  int
}

func newMemoryModel() *memoryModel { return &memoryModel{bytes: map[int]byte{}} }

// asked is what the calls that name n bytes at each of some places answer.
func (m *memoryModel) asked(n int, places ...int) api.Errno {
	for _, at := range places {
		if n < 0 || at < 0 {
			return api.ErrArg
		}
	}
	for _, at := range places {
		end := new(big.Int).Add(big.NewInt(int64(at)), big.NewInt(int64(n)))
		if n > 0 && end.Cmp(big.NewInt(int64(m.size))) > 0 {
			return api.ErrMemory
		}
	}
	return api.OK
}

func (m *memoryModel) grow(to int) api.Errno {
	if to < 0 {
		return api.ErrArg
	}
	if to > api.MaxMemory {
		return api.ErrMemory
	}
	for m.size < to {
		m.size += 32
	}
	return api.OK
}

func (m *memoryModel) read(at, n int) ([]byte, api.Errno) {
	if e := m.asked(n, at); e != api.OK {
		return nil, e
	}
	var l []byte
	for i := range n {
		l = append(l, m.bytes[at+i])
	}
	return l, api.OK
}

func (m *memoryModel) write(at int, b []byte) api.Errno {
	e := m.asked(len(b), at)
	if e != api.OK {
		return e
	}
	for i, x := range b {
		m.bytes[at+i] = x
	}
	return e
}

func (m *memoryModel) move(to, from, n int) api.Errno {
	if e := m.asked(n, to, from); e != api.OK {
		return e
	}
	was, _ := m.read(from, n)
	return m.write(to, was)
}

func (m *memoryModel) load(at int) (api.Word, api.Errno) {
	b, e := m.read(at, 32)
	return wordOf(b), e
}

func (m *memoryModel) store(at int, x api.Word) api.Errno { return m.write(at, bytesOf(x)) }

// wordOf and bytesOf by plain numbers.
func wordOf(b []byte) api.Word {
	var x api.Word
	number := new(big.Int).SetBytes(b)
	for i := range x {
		x[i] = new(big.Int).And(number, new(big.Int).SetUint64(math.MaxUint64)).Uint64()
		number.Rsh(number, 64)
	}
	return x
}

func bytesOf(x api.Word) []byte { return numberOf(x).FillBytes(make([]byte, 32)) }

func numberOf(x api.Word) *big.Int {
	number := new(big.Int)
	for i := len(x) - 1; i >= 0; i-- {
		number.Lsh(number, 64)
		number.Or(number, new(big.Int).SetUint64(x[i]))
	}
	return number
}

// reach by plain numbers.
func (m *memoryModel) reach(at, n api.Word) (int, bool) {
	if numberOf(n).Sign() == 0 {
		return m.size, true
	}
	end := new(big.Int).Add(numberOf(at), numberOf(n))
	if end.Cmp(big.NewInt(api.MaxMemory)) > 0 {
		return 0, false
	}
	words := new(big.Int).Div(new(big.Int).Add(end, big.NewInt(31)), big.NewInt(32))
	return max(m.size, 32*int(words.Int64())), true
}

// holdMemory holds a memory against the model: every byte, and that there is none more.
func holdMemory(t *testing.T, x *mach.Memory, m *memoryModel) {
	t.Helper()
	if x.Len() != m.size {
		t.Fatalf("Len %d, not %d", x.Len(), m.size)
	}
	got, e := x.Read(0, m.size)
	want, _ := m.read(0, m.size)
	if e != api.OK || !slices.Equal(got, want) {
		t.Fatalf("%v, its bytes %v, not %v", e, got, want)
	}
	if b, e := x.Read(m.size, 1); e != api.ErrMemory || len(b) != 0 {
		t.Fatalf("a byte behind the end: %v, %v", b, e)
	}
}

// memoryOf is a memory of this many bytes, none of them 0, and its model.
func memoryOf(size int) (*mach.Memory, *memoryModel) {
	x, m := mach.NewMemory(), newMemoryModel()
	x.Grow(size)
	m.grow(size)
	b := filled(m.size)
	x.Write(0, b)
	m.write(0, b)
	return x, m
}

// filled is bytes of which none is 0, and neighbours are unlike.
func filled(n int) []byte {
	b := make([]byte, n)
	for i := range b {
		b[i] = byte(1 + i%251)
	}
	return b
}

// numbers is every kind of number, seen from a limit: far below 0 and far above any sum, and close to the limit.
func numbers(limit int) []int {
	l := []int{math.MinInt, math.MinInt + 1, -1 << 32, -1025, -1024, -1023, -33, -32, -1, 0, 1, 2, 3, 31, 32, 33, 1023, 1024, 1025, 2048, 1 << 31, 1 << 32, 1 << 62, math.MaxInt - 32, math.MaxInt - 31, math.MaxInt - 1, math.MaxInt}
	for _, d := range []int{-33, -32, -31, -2, -1, 0, 1, 2, 31, 32, 33} {
		l = append(l, limit+d)
	}
	slices.Sort(l)
	return slices.Compact(l)
}

// draw is a row of numbers that looks like chance and is the same in each run.
type draw uint64

func (d *draw) next() uint64 {
	*d += 0x9e3779b97f4a7c15
	z := uint64(*d)
	z = (z ^ z>>30) * 0xbf58476d1ce4e5b9
	z = (z ^ z>>27) * 0x94d049bb133111eb
	return z ^ z>>31
}

func (d *draw) below(n int) int { return int(d.next() % uint64(n)) }

func (d *draw) word() api.Word { return api.Word{d.next(), d.next(), d.next(), d.next()} }

func (d *draw) of(l []int) int { return l[d.below(len(l))] }

func (d *draw) bytes(n int) []byte {
	b := make([]byte, n)
	for i := range b {
		b[i] = byte(d.next())
	}
	return b
}

func wantErrno(t *testing.T, what string, got, want api.Errno) {
	t.Helper()
	if got != want {
		t.Errorf("%s: %v, not %v", what, got, want)
	}
}
