package sponge_test

import (
	"encoding/hex"
	"testing"

	"vouch/api"
	"vouch/sponge"
)

// The model: the permutation bit by bit, as 2.1 and 2.2 tell it; it has no table and no lane. And its way back, thing by thing.

// cube is a state: the bit z of the lane at (x, y).
type cube [5][5][64]byte

func toCube(lanes [25]uint64) cube {
	var a cube
	for x := range 5 {
		for y := range 5 {
			for z := range 64 {
				a[x][y][z] = byte(lanes[x+5*y] >> z & 1)
			}
		}
	}
	return a
}

func toLanes(a cube) [25]uint64 {
	var lanes [25]uint64
	for x := range 5 {
		for y := range 5 {
			for z := range 64 {
				lanes[x+5*y] |= uint64(a[x][y][z]) << z
			}
		}
	}
	return lanes
}

// columns: the first thing of a round.
func columns(a cube) cube {
	var c [5][64]byte
	for x := range 5 {
		for z := range 64 {
			for y := range 5 {
				c[x][z] ^= a[x][y][z]
			}
		}
	}
	var b cube
	for x := range 5 {
		for y := range 5 {
			for z := range 64 {
				b[x][y][z] = a[x][y][z] ^ c[(x+4)%5][z] ^ c[(x+1)%5][(z+63)%64]
			}
		}
	}
	return b
}

func turnsOfPlaces() [5][5]int {
	var r [5][5]int
	x, y := 1, 0
	for t := range 24 {
		r[x][y] = (t + 1) * (t + 2) / 2 % 64
		x, y = y, (2*x+3*y)%5
	}
	return r
}

func turned(a cube, back bool) cube {
	var b cube
	for x := range 5 {
		for y := range 5 {
			for z := range 64 {
				if to := (z + modelTurns[x][y]) % 64; back {
					b[x][y][z] = a[x][y][to]
				} else {
					b[x][y][to] = a[x][y][z]
				}
			}
		}
	}
	return b
}

func moved(a cube, back bool) cube {
	var b cube
	for x := range 5 {
		for y := range 5 {
			if back {
				b[x][y] = a[y][(2*x+3*y)%5]
			} else {
				b[y][(2*x+3*y)%5] = a[x][y]
			}
		}
	}
	return b
}

// bentRow: the fourth thing, of the five bits of one row.
func bentRow(row [5]byte) [5]byte {
	var b [5]byte
	for x := range 5 {
		b[x] = row[x]
		if row[(x+1)%5] == 0 {
			b[x] ^= row[(x+2)%5]
		}
	}
	return b
}

// unbentRow finds the row by trying all 32.
func unbentRow(want [5]byte) [5]byte {
	for n := range 32 {
		var row [5]byte
		for x := range 5 {
			row[x] = byte(n >> x & 1)
		}
		if bentRow(row) == want {
			return row
		}
	}
	panic("no row is bent to this one")
}

func rowByRow(a cube, f func([5]byte) [5]byte) cube {
	var b cube
	for y := range 5 {
		for z := range 64 {
			var row [5]byte
			for x := range 5 {
				row[x] = a[x][y][z]
			}
			row = f(row)
			for x := range 5 {
				b[x][y][z] = row[x]
			}
		}
	}
	return b
}

// rowOfBits: the first n bits of 2.2's row.
func rowOfBits(n int) []byte {
	register := []byte{1, 0, 0, 0, 0, 0, 0, 0}
	var bits []byte
	for range n {
		bits = append(bits, register[0])
		nine := append([]byte{0}, register...)
		if nine[8] == 1 {
			for _, i := range []int{0, 4, 5, 6} {
				nine[i] ^= 1
			}
		}
		register = nine[:8]
	}
	return bits
}

// roundConstants: by 2.1's fifth thing.
func roundConstants() [24]uint64 {
	bits := rowOfBits(7 * 24)
	var all [24]uint64
	for k := range all {
		for j := range 7 {
			all[k] |= uint64(bits[j+7*k]) << (1<<j - 1)
		}
	}
	return all
}

// Worked out once for all tests: they are asked for in every round.
var (
	modelConstants = roundConstants()
	modelTurns     = turnsOfPlaces()
)

func withConstant(a cube, k int) cube {
	for z := range 64 {
		a[0][0][z] ^= byte(modelConstants[k] >> z & 1)
	}
	return a
}

// things: the first four things of a round.
func things(a cube) cube {
	return rowByRow(moved(turned(columns(a), false), false), bentRow)
}

// thingsBack: their way back. The first thing, done 192 times, is nothing: so 191 times it is its own way back.
func thingsBack(a cube) cube {
	a = turned(moved(rowByRow(a, unbentRow), true), true)
	for range 191 {
		a = columns(a)
	}
	return a
}

func modelPermute(lanes [25]uint64) [25]uint64 {
	a := toCube(lanes)
	for k := range 24 {
		a = withConstant(things(a), k)
	}
	return toLanes(a)
}

func modelBack(lanes [25]uint64) [25]uint64 {
	a := toCube(lanes)
	for k := 23; k >= 0; k-- {
		a = thingsBack(withConstant(a, k))
	}
	return toLanes(a)
}

// padded: the bytes as 2.3 has them.
func padded(b []byte) []byte {
	out := append([]byte{}, b...)
	out = append(out, 0x01)
	for len(out)%136 != 0 {
		out = append(out, 0)
	}
	out[len(out)-1] |= 0x80
	return out
}

// hashBy is 2.4 with a permutation that is handed in.
func hashBy(permute func([25]uint64) [25]uint64, b []byte) api.Hash {
	var lanes [25]uint64
	for p := padded(b); len(p) > 0; p = p[136:] {
		for i := range 17 {
			var n uint64
			for j := 7; j >= 0; j-- {
				n = n<<8 | uint64(p[8*i+j])
			}
			lanes[i] ^= n
		}
		lanes = permute(lanes)
	}
	var hash api.Hash
	for i := range 4 {
		n := lanes[i]
		for j := range 8 {
			hash[8*i+j] = byte(n % 256)
			n /= 256
		}
	}
	return hash
}

// draw is a row of numbers that looks like chance and is the same in each run.
type draw uint64

func (d *draw) next() uint64 {
	*d += 0x9e3779b97f4a7c15
	z := uint64(*d)
	z = (z ^ z>>30) * 0xbf58476d1ce4e5b9
	z = (z ^ z>>27) * 0x94d049bb133111eb
	return z ^ z>>31
}

func (d *draw) below(n int) int { return int(d.next() % uint64(n)) }

func (d *draw) lanes() [25]uint64 {
	var a [25]uint64
	for i := range a {
		a[i] = d.next()
	}
	return a
}

func (d *draw) bytes(n int) []byte {
	b := make([]byte, n)
	for i := range b {
		b[i] = byte(d.next())
	}
	return b
}

// sevens: n bytes, the i-th 7 i.
func sevens(n int) []byte {
	b := make([]byte, n)
	for i := range b {
		b[i] = byte(7 * i)
	}
	return b
}

func unhex(t *testing.T, s string) api.Hash {
	t.Helper()
	b, err := hex.DecodeString(s)
	if err != nil || len(b) != 32 {
		t.Fatalf("no hash: %s", s)
	}
	return api.Hash(b)
}

// edges: lengths just below, at and just above a multiple of 8 and of 136.
func edges() []int {
	return []int{0, 1, 7, 8, 9, 15, 16, 17, 127, 128, 129, 134, 135, 136, 137, 138, 143, 144, 145, 271, 272, 273, 407, 408, 409, 543, 544, 545}
}

// written is the hash by a new sponge that is handed b whole.
func written(b []byte) api.Hash {
	s := sponge.New()
	s.Write(b)
	return s.Sum()
}
