package lean_test

import "math/rand/v2"

// drawing draws: the same in each run.
type drawing struct{ *rand.Rand }

func draw(seed uint64) drawing { return drawing{rand.New(rand.NewPCG(seed, 20))} }

func pick[T any](d drawing, l ...T) T { return l[d.IntN(len(l))] }

func (d drawing) bytes(size int) []byte {
	b := make([]byte, size)
	for i := range b {
		b[i] = byte(d.Uint32())
	}
	return b
}
