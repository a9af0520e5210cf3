package container_test

import (
	"bytes"
	"math/rand/v2"
	"testing"

	"vouch/api"
	"vouch/container"
)

// wantBytes holds a container that may be against the model's bytes, there and back again.
func wantBytes(t *testing.T, c api.Container) {
	t.Helper()
	want := laid(c)
	if wrong := container.Check(c); wrong != api.OK {
		t.Fatalf("Check: %v", wrong)
	}
	b, wrong := container.Serialize(c)
	n, other := container.Size(c)
	if wrong != api.OK || other != api.OK || n != len(want) || !bytes.Equal(b, want) {
		t.Fatalf("Serialize: %d bytes %s, %v; Size: %d, %v; want %d bytes %s", len(b), short(b), wrong, n, other, len(want), short(want))
	}
	wantTaken(t, b, true, c)
	if len(c.Data) == c.Size {
		wantTaken(t, b, false, c)
	} else {
		wantRefused(t, b, false, api.ErrCut, len(b))
	}
}

// 5.2, 5.5, W5: containers of every form have the bytes of 'Containers', and are read again as they were.
func TestFormsThereAndBack(t *testing.T) {
	wantBytes(t, least())
	for _, c := range forms() {
		wantBytes(t, c)
	}
}

// drawn is a container that may be.
func drawn(d *rand.Rand) api.Container {
	upTo := func(n int) int { return d.IntN(1 + d.IntN(n)) }
	c := api.Container{Size: upTo(60)}
	for i := range 1 + upTo(6) {
		c.Codes = append(c.Codes, row(d.IntN(256), 1+upTo(30)))
		c.Types = append(c.Types, api.Type{In: d.IntN(128), Out: d.IntN(129), Most: d.IntN(1024)})
		if i == 0 {
			c.Types[0].In, c.Types[0].Out = 0, api.NoReturn
		}
	}
	for range upTo(6) {
		c.Subs = append(c.Subs, row(d.IntN(256), 1+upTo(30)))
	}
	c.Data = row(d.IntN(256), c.Size)
	if d.IntN(2) == 0 {
		c.Data = c.Data[:d.IntN(c.Size+1)]
	}
	return c
}

// 5.2, 5.5, W5: so do containers by chance.
func TestDrawnThereAndBack(t *testing.T) {
	d := chance(52)
	for range 20000 {
		wantBytes(t, drawn(d))
	}
}

// 5.2: each field of each type stands in its own bytes.
func TestTypesBytes(t *testing.T) {
	c := made([]int{1, 1}, nil, 0, 0)
	for in := range 128 {
		for _, out := range []int{0, 1, 127, 128} {
			for _, most := range []int{0, 1, 255, 256, 258, 1022, 1023} {
				c.Types[0].Most = most
				c.Types[1] = api.Type{In: in, Out: out, Most: 1023 - most}
				wantBytes(t, c)
			}
		}
	}
	for n := range 1024 {
		c.Types[0].Most = n
		c.Types[1] = api.Type{In: n % 128, Out: n % 129, Most: 1023 - n}
		wantBytes(t, c)
	}
}

// 5.5, W4: whatever Parse takes, Check takes, and its bytes are the ones that were read.
func TestTakenIsItsBytes(t *testing.T) {
	d := chance(55)
	taken := 0
	for range 20000 {
		b := laid(drawn(d))
		for range d.IntN(3) {
			b[d.IntN(len(b))] = byte(d.Uint32())
		}
		for _, open := range []bool{false, true} {
			c, r := container.Parse(b, open)
			if r.Code != api.OK {
				continue
			}
			taken++
			back, wrong := container.Serialize(c)
			n, other := container.Size(c)
			if container.Check(c) != api.OK || wrong != api.OK || other != api.OK || n != len(b) || !bytes.Equal(back, b) {
				t.Fatalf("%s is taken, and has the bytes %s (%d), %v %v", short(b), short(back), n, wrong, other)
			}
		}
	}
	if taken < 5000 {
		t.Errorf("only %d were taken", taken)
	}
}
