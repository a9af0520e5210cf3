package mach_test

import (
	"bytes"
	"math"
	"math/big"
	"slices"
	"testing"

	"vouch/api"
	"vouch/mach"
)

// sizes of memories that are gone through whole.
var sizes = []int{0, 32, 64, 96, 1024}

// 9.6: a new memory has no byte.
func TestNewMemoryIsEmpty(t *testing.T) {
	x := mach.NewMemory()
	if x.Len() != 0 {
		t.Errorf("Len %d", x.Len())
	}
	holdMemory(t, x, newMemoryModel())
}

// 9.6, 9.8: Len is the least multiple of 32 that is at least what was asked for.
func TestGrowRoundsUp(t *testing.T) {
	for to := range 1100 {
		x, m := mach.NewMemory(), newMemoryModel()
		wantErrno(t, "Grow", x.Grow(to), api.OK)
		m.grow(to)
		if x.Len() != m.size || x.Len()%32 != 0 {
			t.Errorf("Grow(%d): %d bytes, not %d", to, x.Len(), m.size)
		}
	}
}

// 9.8, 9.12: Grow by steps that are no multiples of 32: never shorter, the new bytes 0, the old ones as they were.
func TestGrowByUnevenSteps(t *testing.T) {
	for _, step := range []int{1, 7, 31, 33, 50, 95, 100, 257} {
		x, m := mach.NewMemory(), newMemoryModel()
		for to := 0; to < 2000; to += step {
			wantErrno(t, "Grow", x.Grow(to), api.OK)
			m.grow(to)
			holdMemory(t, x, m)
			b := filled(m.size)
			wantErrno(t, "Write", x.Write(0, b), api.OK)
			m.write(0, b)
		}
	}
}

// 9.8, 9.12: from each length to each: if it had as many, nothing changes.
func TestGrowNeverShrinks(t *testing.T) {
	for _, size := range sizes {
		for _, to := range []int{0, 1, 31, 32, 33, 63, 64, 65, 95, 96, 97, 1023, 1024, 1025} {
			x, m := memoryOf(size)
			wantErrno(t, "Grow", x.Grow(to), api.OK)
			m.grow(to)
			holdMemory(t, x, m)
			if x.Len() < size {
				t.Errorf("from %d to %d: %d", size, to, x.Len())
			}
		}
	}
}

// 9.8: which numbers Grow refuses, and that it changes nothing then.
func TestGrowRefused(t *testing.T) {
	for _, size := range sizes {
		x, m := memoryOf(size)
		for _, to := range []int{-1, -31, -32, -33, -1 << 40, math.MinInt, math.MinInt + 31} {
			wantErrno(t, "below 0", x.Grow(to), api.ErrArg)
		}
		for _, to := range []int{api.MaxMemory + 1, api.MaxMemory + 31, api.MaxMemory + 32, 1 << 32, 1<<32 + 32, math.MaxInt - 31, math.MaxInt - 30, math.MaxInt} {
			wantErrno(t, "above MaxMemory", x.Grow(to), api.ErrMemory)
		}
		holdMemory(t, x, m)
	}
}

// 9.6, 9.8: MaxMemory and what is rounded up to it are well, one past it is refused.
func TestGrowToTheLimit(t *testing.T) {
	for _, to := range []int{api.MaxMemory, api.MaxMemory - 1, api.MaxMemory - 31} {
		x := mach.NewMemory()
		wantErrno(t, "Grow", x.Grow(32), api.OK)
		wantErrno(t, "Store8", x.Store8(31, 9), api.OK)
		wantErrno(t, "Grow", x.Grow(to), api.OK)
		wantErrno(t, "Grow", x.Grow(api.MaxMemory+1), api.ErrMemory)
		want := make([]byte, api.MaxMemory)
		want[31] = 9
		if b, e := x.Read(0, api.MaxMemory); e != api.OK || !bytes.Equal(b, want) || x.Len() != api.MaxMemory {
			t.Errorf("Grow(%d): Len %d, %v", to, x.Len(), e)
		}
	}
	x := mach.NewMemory()
	wantErrno(t, "Grow", x.Grow(api.MaxMemory-32), api.OK)
	if x.Len() != api.MaxMemory-32 {
		t.Errorf("Len %d", x.Len())
	}
}

// 9.8: word by word up to MaxMemory, the last byte of each word written.
func TestGrowWordByWord(t *testing.T) {
	x := mach.NewMemory()
	for to := 32; to <= api.MaxMemory; to += 32 {
		if x.Grow(to-31) != api.OK || x.Len() != to || x.Store8(to-1, byte(to>>5)) != api.OK {
			t.Fatalf("at %d: Len %d", to, x.Len())
		}
	}
	b, e := x.Read(0, api.MaxMemory)
	if e != api.OK {
		t.Fatal(e)
	}
	for i, got := range b {
		want := byte(0)
		if i%32 == 31 {
			want = byte((i + 1) >> 5)
		}
		if got != want {
			t.Fatalf("byte %d: %d, not %d", i, got, want)
		}
	}
}

// wordsAround is words of every kind: small ones, those around MaxMemory, around each 64 bits, and the greatest.
func wordsAround() []api.Word {
	var l []api.Word
	for _, n := range []uint64{0, 1, 2, 30, 31, 32, 33, 63, 64, 65, 1 << 20, api.MaxMemory - 33, api.MaxMemory - 32, api.MaxMemory - 31, api.MaxMemory - 1, api.MaxMemory, api.MaxMemory + 1, 1<<31 - 1, 1 << 31, 1<<32 - 1, 1 << 32, 1<<63 - 1, 1 << 63, math.MaxUint64 - 31, math.MaxUint64} {
		l = append(l, api.Word{n})
	}
	for i := 1; i < 4; i++ {
		for _, low := range []uint64{0, 1, 32} {
			x := api.Word{low}
			x[i] = 1
			l = append(l, x)
		}
	}
	const all = math.MaxUint64
	return append(l, api.Word{all, all, all, all}, api.Word{all - 31, all, all, all}, api.Word{0, all, all, all}, api.Word{1, 0, 0, 1 << 63}, api.Word{5, 1, 1, 1})
}

// 9.7: Reach of every kind of at and n, at several lengths: by plain numbers; nothing changes.
func TestReach(t *testing.T) {
	for _, size := range []int{0, 32, 64, 1024, 1<<20 + 32} {
		x := mach.NewMemory()
		x.Grow(size)
		m := &memoryModel{size: size}
		for _, at := range wordsAround() {
			for _, n := range wordsAround() {
				got, ok := x.Reach(at, n)
				if want, is := m.reach(at, n); got != want || ok != is {
					t.Errorf("of %d: Reach(%v, %v) %d, %v, not %d, %v", size, at, n, got, ok, want, is)
				}
				if x.Len() != size {
					t.Fatalf("Reach(%v, %v) made it %d long", at, n, x.Len())
				}
			}
		}
	}
}

// 9.7: a full memory reaches no further, and is never told to be shorter.
func TestReachOfAFullOne(t *testing.T) {
	x := mach.NewMemory()
	x.Grow(api.MaxMemory)
	for _, at := range wordsAround() {
		for _, n := range wordsAround() {
			got, ok := x.Reach(at, n)
			end := new(big.Int).Add(numberOf(at), numberOf(n))
			is := n == api.Word{} || end.Cmp(big.NewInt(api.MaxMemory)) <= 0
			want := 0
			if is {
				want = api.MaxMemory
			}
			if got != want || ok != is {
				t.Errorf("Reach(%v, %v) %d, %v", at, n, got, ok)
			}
		}
	}
}

// 9.7, 9.8: what Reach tells, Grow of at + n makes it.
func TestReachIsWhatGrowMakes(t *testing.T) {
	seed := draw(3)
	for range 300 {
		x, _ := memoryOf(32 * seed.below(20))
		at, n := seed.below(700), 1+seed.below(300)
		want, ok := x.Reach(api.Word{uint64(at)}, api.Word{uint64(n)})
		wantErrno(t, "Grow", x.Grow(at+n), api.OK)
		if !ok || x.Len() != want {
			t.Fatalf("Reach(%d, %d) %d, %v; %d", at, n, want, ok, x.Len())
		}
		if again, ok := x.Reach(api.Word{uint64(at)}, api.Word{uint64(n)}); !ok || again != want {
			t.Fatalf("Reach again: %d", again)
		}
	}
}

// 9.9: Load at every kind of number.
func TestLoad(t *testing.T) {
	for _, size := range sizes {
		x, m := memoryOf(size)
		for _, at := range numbers(size) {
			got, e := x.Load(at)
			if want, we := m.load(at); got != want || e != we {
				t.Errorf("of %d: Load(%d) %v, %v, not %v, %v", size, at, got, e, want, we)
			}
		}
		holdMemory(t, x, m)
	}
}

// 9.9: Store at every kind of number; the bytes beside stay.
func TestStore(t *testing.T) {
	for _, size := range sizes {
		for _, at := range numbers(size) {
			x, m := memoryOf(size)
			if e, want := x.Store(at, odd(at)), m.store(at, odd(at)); e != want {
				t.Errorf("of %d: Store(%d) %v, not %v", size, at, e, want)
			}
			holdMemory(t, x, m)
		}
	}
}

// 9.9: Store8 at every kind of number: one byte, and no other.
func TestStore8(t *testing.T) {
	for _, size := range sizes {
		for _, at := range numbers(size) {
			for _, b := range []byte{0, 1, 255} {
				x, m := memoryOf(size)
				if e, want := x.Store8(at, b), m.write(at, []byte{b}); e != want {
					t.Errorf("of %d: Store8(%d) %v, not %v", size, at, e, want)
				}
				holdMemory(t, x, m)
			}
		}
	}
}

// 9.9: Read at every kind of two numbers.
func TestRead(t *testing.T) {
	for _, size := range sizes {
		x, m := memoryOf(size)
		for _, at := range numbers(size) {
			for _, n := range numbers(size) {
				got, e := x.Read(at, n)
				want, we := m.read(at, n)
				if e != we || !slices.Equal(got, want) {
					t.Errorf("of %d: Read(%d, %d) %v, %v, not %v, %v", size, at, n, got, e, want, we)
				}
			}
		}
		holdMemory(t, x, m)
	}
}

// 9.9: Write of none, of some and of too many bytes at every kind of number.
func TestWrite(t *testing.T) {
	for _, size := range sizes {
		for _, n := range []int{0, 1, 2, 31, 32, 33, size - 1, size, size + 1, size + 40} {
			b := bytes.Repeat([]byte{0xee}, max(n, 0))
			for _, at := range numbers(size) {
				x, m := memoryOf(size)
				if e, want := x.Write(at, b), m.write(at, b); e != want {
					t.Errorf("of %d: Write(%d, %d bytes) %v, not %v", size, at, n, e, want)
				}
				holdMemory(t, x, m)
			}
		}
	}
}

// 9.9: Move at every kind of three numbers.
func TestMove(t *testing.T) {
	for _, size := range []int{0, 32, 96} {
		x, m := memoryOf(size)
		for _, to := range numbers(size) {
			for _, from := range numbers(size) {
				for _, n := range numbers(size) {
					if e, want := x.Move(to, from, n), m.move(to, from, n); e != want {
						t.Errorf("of %d: Move(%d, %d, %d) %v, not %v", size, to, from, n, e, want)
					}
				}
				holdMemory(t, x, m)
			}
		}
	}
}

// 9.9: pieces that overlap, both ways, by every distance.
func TestMoveOverlaps(t *testing.T) {
	for to := range 64 {
		for from := range 64 {
			for _, n := range []int{1, 2, 3, 31, 32, 33, 64 - max(to, from)} {
				x, m := memoryOf(64)
				if e, want := x.Move(to, from, n), m.move(to, from, n); e != want {
					t.Fatalf("Move(%d, %d, %d) %v, not %v", to, from, n, e, want)
				}
				holdMemory(t, x, m)
			}
		}
	}
}

// 9.9: of no bytes nothing is done, and that is OK wherever it is; but numbers below 0 are refused.
func TestNothing(t *testing.T) {
	for _, size := range sizes {
		x, m := memoryOf(size)
		for _, at := range numbers(size) {
			want := api.OK
			if at < 0 {
				want = api.ErrArg
			}
			b, e := x.Read(at, 0)
			if len(b) != 0 {
				t.Errorf("Read(%d, 0): %v", at, b)
			}
			wantErrno(t, "Read", e, want)
			wantErrno(t, "Write", x.Write(at, nil), want)
			wantErrno(t, "Write", x.Write(at, []byte{}), want)
			wantErrno(t, "Move to", x.Move(at, 0, 0), want)
			wantErrno(t, "Move from", x.Move(math.MaxInt, at, 0), want)
		}
		holdMemory(t, x, m)
	}
}

// 9.9: a number below 0 is told ahead of bytes that are not there.
func TestArgComesFirst(t *testing.T) {
	for _, size := range sizes {
		x, m := memoryOf(size)
		_, e := x.Read(math.MaxInt, -1)
		wantErrno(t, "Read(greatest, -1)", e, api.ErrArg)
		_, e = x.Read(-1, math.MaxInt)
		wantErrno(t, "Read(-1, greatest)", e, api.ErrArg)
		_, e = x.Load(-1)
		wantErrno(t, "Load(-1)", e, api.ErrArg)
		wantErrno(t, "Store(-32)", x.Store(-32, odd(1)), api.ErrArg)
		wantErrno(t, "Store8(least)", x.Store8(math.MinInt, 1), api.ErrArg)
		wantErrno(t, "Write(-1, too many)", x.Write(-1, make([]byte, size+2)), api.ErrArg)
		wantErrno(t, "Move(-1, far, far)", x.Move(-1, math.MaxInt, math.MaxInt), api.ErrArg)
		wantErrno(t, "Move(far, -1, far)", x.Move(math.MaxInt, -1, math.MaxInt), api.ErrArg)
		wantErrno(t, "Move(far, far, -1)", x.Move(math.MaxInt, math.MaxInt, -1), api.ErrArg)
		holdMemory(t, x, m)
	}
}

// 9.9: at the end of a full memory.
func TestAtTheEndOfAFullOne(t *testing.T) {
	x := mach.NewMemory()
	wantErrno(t, "Grow", x.Grow(api.MaxMemory), api.OK)
	wantErrno(t, "Store", x.Store(api.MaxMemory-32, odd(5)), api.OK)
	wantErrno(t, "Store", x.Store(api.MaxMemory-31, odd(6)), api.ErrMemory)
	wantErrno(t, "Store8", x.Store8(api.MaxMemory, 1), api.ErrMemory)
	wantErrno(t, "Write", x.Write(1, make([]byte, api.MaxMemory)), api.ErrMemory)
	wantErrno(t, "Move", x.Move(1, 0, api.MaxMemory), api.ErrMemory)
	wantErrno(t, "Move", x.Move(0, 1, api.MaxMemory), api.ErrMemory)
	_, e := x.Read(1, api.MaxMemory)
	wantErrno(t, "Read", e, api.ErrMemory)
	_, e = x.Load(api.MaxMemory - 31)
	wantErrno(t, "Load", e, api.ErrMemory)
	if w, e := x.Load(api.MaxMemory - 32); e != api.OK || w != odd(5) {
		t.Errorf("Load: %v, %v", w, e)
	}
	wantErrno(t, "Move", x.Move(0, 1, api.MaxMemory-1), api.OK)
	if w, e := x.Load(api.MaxMemory - 33); e != api.OK || w != odd(5) {
		t.Errorf("Load behind Move: %v, %v", w, e)
	}
}

// 9.6, 9.9: none of the calls but Grow makes memory longer.
func TestOnlyGrowMakesLonger(t *testing.T) {
	x := mach.NewMemory()
	x.Load(0)
	x.Store(0, odd(1))
	x.Store8(0, 1)
	x.Read(0, 5)
	x.Write(0, []byte{1})
	x.Move(0, 1, 1)
	x.Reach(api.Word{5}, api.Word{99})
	if x.Len() != 0 {
		t.Errorf("Len %d", x.Len())
	}
}
