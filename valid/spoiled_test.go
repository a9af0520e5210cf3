package valid_test

import (
	"math/rand/v2"
	"slices"
	"testing"

	"vouch/api"
	"vouch/container"
	"vouch/valid"
)

// near is a number a little above or below.
func near(d *rand.Rand, n int) int { return n - 1 + 2*d.IntN(2) }

// spoilByte turns, takes out or puts in one byte, mostly one that names something or ends.
func spoilByte(d *rand.Rand, b []byte) []byte {
	telling := []byte{0x00, 0xf3, 0xee, 0xec, 0xe0, 0xe3, 0xe4, 0xe5, 0xd1, 0x50, 0x5f, 0x01, 0x02}
	with := byte(d.Uint32())
	if d.IntN(2) == 0 {
		with = telling[d.IntN(len(telling))]
	}
	if len(b) == 0 {
		return []byte{with}
	}
	at := d.IntN(len(b))
	switch d.IntN(6) {
	case 0:
		return slices.Delete(b, at, at+1)
	case 1:
		return slices.Insert(b, at, with)
	case 2:
		b[at]++
	case 3:
		b[at]--
	default:
		b[at] = with
	}
	return b
}

// spoilType turns one number of a type a little.
func spoilType(d *rand.Rand, t *api.Type) {
	switch d.IntN(4) {
	case 0:
		t.In = near(d, t.In)
	case 1:
		t.Out = near(d, t.Out)
	case 2:
		t.Most = near(d, t.Most)
	case 3:
		t.Out = never
	}
}

// spoilWhole turns something that hangs on the container as a whole.
func spoilWhole(d *rand.Rand, c *api.Container) {
	switch d.IntN(6) {
	case 0:
		c.Types, c.Codes = append(c.Types, typed(0, 0, 0)...), append(c.Codes, raw("e4"))
	case 1:
		c.Subs = append(c.Subs, bytesOf(stuck()))
	case 2:
		c.Size = near(d, c.Size)
	case 3:
		c.Size = d.IntN(40)
		c.Data = c.Data[:min(len(c.Data), c.Size)]
	case 4:
		if len(c.Subs) > 0 {
			c.Subs = slices.Delete(c.Subs, 0, 1)
		}
	case 5:
		if n := len(c.Subs); n > 1 {
			c.Subs[0], c.Subs[n-1] = c.Subs[n-1], c.Subs[0]
		}
	}
}

// spoiled is the container with something turned in it, that need not break a clause.
func spoiled(d *rand.Rand, c api.Container) api.Container {
	c = copied(c)
	switch way := d.IntN(10); {
	case way < 4:
		n := d.IntN(len(c.Codes))
		c.Codes[n] = spoilByte(d, c.Codes[n])
	case way < 6:
		spoilType(d, &c.Types[d.IntN(len(c.Types))])
	case way < 8 || len(c.Subs) == 0:
		spoilWhole(d, &c)
	default:
		n := d.IntN(len(c.Subs))
		c.Subs[n] = spoilSub(d, c.Subs[n])
	}
	return c
}

// spoilSub turns something in a nested container: in its bytes, or in what they say.
func spoilSub(d *rand.Rand, b []byte) []byte {
	inner, wrong := container.Parse(b, true)
	if wrong.Code != api.OK || d.IntN(3) == 0 {
		return spoilByte(d, b)
	}
	if again, wrong := container.Serialize(spoiled(d, inner)); wrong == api.OK {
		return again
	}
	return b
}

// 8.1, 8.2, W6: drawn containers with one thing turned, or two or three: Judge and Validate name the first clause that is broken, and where, as the model does.
func TestSpoiled(t *testing.T) {
	d := chance(2)
	met := map[api.Errno]int{}
	deep := map[api.Errno]int{}
	for range 5000 {
		kind := kinds[d.IntN(2)]
		c := drawn(d, kind, d.IntN(4), d.IntN(8) == 0)
		for range 1 + d.IntN(3) {
			c = spoiled(d, c)
		}
		if d.IntN(12) == 0 {
			kind = api.Runtime + api.Init - kind
		}
		no := held(t, c, kind)
		met[no.Code]++
		if len(no.Path) > 1 {
			deep[no.Code]++
		}
	}
	for _, wrong := range []api.Errno{api.OK, api.ErrType, api.ErrOpcode, api.ErrImm, api.ErrOpen, api.ErrTarget, api.ErrUnder, api.ErrLoop, api.ErrDead, api.ErrReturn, api.ErrMost, api.ErrBarred, api.ErrSection, api.ErrNever, api.ErrOuts, api.ErrData, api.ErrSub, api.ErrApart, api.ErrIdle, api.ErrCut, api.ErrTail} {
		if met[wrong] < 3 {
			t.Errorf("only %d of %d", met[wrong], wrong)
		}
	}
	if len(deep) < 8 {
		t.Errorf("deep within only %v", deep)
	}
}

// 8.2: bytes of which any are turned: Validate says what Parse says, and else what Judge does.
func TestSpoiledBytes(t *testing.T) {
	d := chance(3)
	for range 4000 {
		kind := kinds[d.IntN(2)]
		b := bytesOf(drawn(d, kind, d.IntN(3), false))
		for range 1 + d.IntN(2) {
			b = spoilByte(d, b)
		}
		c, want := container.Parse(b, false)
		if want.Code == api.OK {
			want = modelJudge(c, kind)
		}
		x, no := valid.Validate(b, kind)
		if !alike(no, want) || (x != nil) != (want.Code == api.OK) {
			t.Fatalf("Validate(%x, %d): %v, %+v, want %+v", b, kind, x != nil, no, want)
		}
	}
}
