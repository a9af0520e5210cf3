package sponge

import "math/bits"

// rounds is how many a permutation has.
const rounds = 24

// constants: what each round lays on the lane 0. They stand here as the row of bits (2.2) makes them, so that no permutation makes them anew.
var constants = [rounds]uint64{
	0x0000000000000001, 0x0000000000008082, 0x800000000000808a, 0x8000000080008000,
	0x000000000000808b, 0x0000000080000001, 0x8000000080008081, 0x8000000000008009,
	0x000000000000008a, 0x0000000000000088, 0x0000000080008009, 0x000000008000000a,
	0x000000008000808b, 0x800000000000008b, 0x8000000000008089, 0x8000000000008003,
	0x8000000000008002, 0x8000000000000080, 0x000000000000800a, 0x800000008000000a,
	0x8000000080008081, 0x8000000000008080, 0x0000000080000001, 0x8000000080008008,
}

// turns: by how much the lane x + 5 y is turned (2.1, the second thing).
var turns = [25]int{
	0, 1, 62, 28, 27,
	36, 44, 6, 55, 20,
	3, 10, 43, 25, 39,
	41, 45, 15, 21, 8,
	18, 2, 61, 56, 14,
}

// moves: to which lane the lane x + 5 y goes (2.1, the third thing).
var moves = [25]int{
	0, 10, 20, 5, 15,
	16, 1, 11, 21, 6,
	7, 17, 2, 12, 22,
	23, 8, 18, 3, 13,
	14, 24, 9, 19, 4,
}

// Permute: the 25 lanes behind all rounds.
func Permute(lanes [25]uint64) [25]uint64 {
	for k := range rounds {
		lanes = bend(move(mix(lanes)))
		lanes[0] ^= constants[k]
	}
	return lanes
}

// mix lays on each lane the columns beside its own.
func mix(a [25]uint64) [25]uint64 {
	var columns [5]uint64
	for x := range 5 {
		columns[x] = a[x] ^ a[x+5] ^ a[x+10] ^ a[x+15] ^ a[x+20]
	}
	for x := range 5 {
		beside := columns[(x+4)%5] ^ bits.RotateLeft64(columns[(x+1)%5], 1)
		a[x] ^= beside
		a[x+5] ^= beside
		a[x+10] ^= beside
		a[x+15] ^= beside
		a[x+20] ^= beside
	}
	return a
}

// move turns each lane and takes it to its new place; the two are one thing here, because a lane is turned by where it comes from.
func move(a [25]uint64) [25]uint64 {
	var b [25]uint64
	for i, to := range moves {
		b[to] = bits.RotateLeft64(a[i], turns[i])
	}
	return b
}

// bend is the one thing of a round that is not linear: each lane of a row hangs on the two beside it. A row is written out, since its places modulo 5 would take longer than what is done there.
func bend(a [25]uint64) [25]uint64 {
	var b [25]uint64
	for y := range 5 {
		row := 5 * y
		b[row] = a[row] ^ a[row+2]&^a[row+1]
		b[row+1] = a[row+1] ^ a[row+3]&^a[row+2]
		b[row+2] = a[row+2] ^ a[row+4]&^a[row+3]
		b[row+3] = a[row+3] ^ a[row]&^a[row+4]
		b[row+4] = a[row+4] ^ a[row+1]&^a[row]
	}
	return b
}
