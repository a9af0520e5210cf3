package sponge_test

import (
	"testing"

	"vouch/sponge"
)

// 2.2: the constants that the chapter names are those of the model that Permute is held against.
func TestConstants(t *testing.T) {
	for k, want := range []uint64{0x0000000000000001, 0x0000000000008082, 0x800000000000808a, 0x8000000080008000} {
		if got := modelConstants[k]; got != want {
			t.Errorf("round %d: %016x", k, got)
		}
	}
}

// 2.2 by Permute itself: taken back to behind the round k, it differs from the round without its fifth thing by the constant alone.
func TestConstantsShow(t *testing.T) {
	seed := draw(22)
	ahead := toCube(seed.lanes())
	last := sponge.Permute(toLanes(ahead))
	for k, want := range modelConstants {
		behind := toCube(last)
		for j := 23; j > k; j-- {
			behind = thingsBack(withConstant(behind, j))
		}
		got, bare := toLanes(behind), toLanes(things(ahead))
		bare[0] ^= want
		if got != bare {
			t.Fatalf("round %d: %016x, not %016x", k, got, bare)
		}
		ahead = behind
	}
}

// 2.1: all lanes of two states that are known.
func TestPermuteKnown(t *testing.T) {
	once := [25]uint64{
		0xf1258f7940e1dde7, 0x84d5ccf933c0478a, 0xd598261ea65aa9ee, 0xbd1547306f80494d, 0x8b284e056253d057,
		0xff97a42d7f8e6fd4, 0x90fee5a0a44647c4, 0x8c5bda0cd6192e76, 0xad30a6f71b19059c, 0x30935ab7d08ffc64,
		0xeb5aa93f2317d635, 0xa9a6e6260d712103, 0x81a57c16dbcf555f, 0x43b831cd0347c826, 0x01f22f1a11a5569f,
		0x05e5635a21d9ae61, 0x64befef28cc970f2, 0x613670957bc46611, 0xb87c5a554fd00ecb, 0x8c3ee88a1ccf32c8,
		0x940c7922ae3a2614, 0x1841f924a2c509e4, 0x16f53526e70465c2, 0x75f644e97f30a13b, 0xeaf1ff7b5ceca249,
	}
	twice := [25]uint64{
		0x2d5c954df96ecb3c, 0x6a332cd07057b56d, 0x093d8d1270d76b6c, 0x8a20d9b25569d094, 0x4f9c4f99e5e7f156,
		0xf957b9a2da65fb38, 0x85773dae1275af0d, 0xfaf4f247c3d810f7, 0x1f1b9ee6f79a8759, 0xe4fecc0fee98b425,
		0x68ce61b6b9ce68a1, 0xdeea66c4ba8f974f, 0x33c43d836eafb1f5, 0xe00654042719dbd9, 0x7cf8a9f009831265,
		0xfd5449a6bf174743, 0x97ddad33d8994b40, 0x48ead5fc5d0be774, 0xe3b8c8ee55b7b03c, 0x91a0226e649e42e9,
		0x900e3129e7badd7b, 0x202a9ec5faa3cce8, 0x5b3402464e1c3db6, 0x609f4e62a44c1059, 0x20d06cd26a8fbf5c,
	}
	if got := sponge.Permute([25]uint64{}); got != once {
		t.Errorf("of lanes 0: %016x", got)
	}
	if got := sponge.Permute(once); got != twice {
		t.Errorf("of that: %016x", got)
	}
}

// 2.1: each state with a single bit.
func TestPermuteSingleBits(t *testing.T) {
	for i := range 25 {
		for z := range 64 {
			var lanes [25]uint64
			lanes[i] = 1 << z
			if got, want := sponge.Permute(lanes), modelPermute(lanes); got != want {
				t.Fatalf("lane %d bit %d: %016x, not %016x", i, z, got, want)
			}
		}
	}
}

// 2.1: full lanes, one lane full, and many states.
func TestPermuteStates(t *testing.T) {
	var states [][25]uint64
	var full [25]uint64
	for i := range full {
		full[i] = 1<<64 - 1
		var alone [25]uint64
		alone[i] = 1<<64 - 1
		states = append(states, alone, full)
	}
	seed := draw(21)
	for range 300 {
		states = append(states, seed.lanes())
	}
	for _, lanes := range states {
		if got, want := sponge.Permute(lanes), modelPermute(lanes); got != want {
			t.Fatalf("%016x: %016x, not %016x", lanes, got, want)
		}
	}
}

// 2.1, R3: the lanes that are handed in stay.
func TestPermuteChangesNothing(t *testing.T) {
	seed := draw(23)
	lanes := seed.lanes()
	kept := lanes
	first := sponge.Permute(lanes)
	if lanes != kept {
		t.Error("the lanes have changed")
	}
	if sponge.Permute(lanes) != first {
		t.Error("not the same again")
	}
}

// 2.7: there is a way back from every state, so no two have the same.
func TestPermuteBack(t *testing.T) {
	seed := draw(27)
	states := [][25]uint64{{}, {24: 1 << 63}, {0: 1}}
	for range 4 {
		states = append(states, seed.lanes())
	}
	for _, lanes := range states {
		if got := modelBack(sponge.Permute(lanes)); got != lanes {
			t.Errorf("%016x: back %016x", lanes, got)
		}
		if got := sponge.Permute(modelBack(lanes)); got != lanes {
			t.Errorf("%016x: there %016x", lanes, got)
		}
	}
}

// 2.7: states that lie close to each other, and many more, are all told apart.
func TestPermuteApart(t *testing.T) {
	seen := map[[25]uint64][25]uint64{}
	look := func(lanes [25]uint64) {
		got := sponge.Permute(lanes)
		if other, ok := seen[got]; ok && other != lanes {
			t.Fatalf("%016x and %016x have the same", lanes, other)
		}
		seen[got] = lanes
	}
	seed := draw(28)
	for _, start := range [][25]uint64{{}, seed.lanes()} {
		look(start)
		for i := range 25 {
			for z := range 64 {
				near := start
				near[i] ^= 1 << z
				look(near)
			}
		}
	}
}
