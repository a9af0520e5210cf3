package container_test

import (
	"syscall"
	"testing"

	"vouch/api"
	"vouch/container"
)

// 5.1, 5.2: a nested container may have 2^32 - 1 bytes, and no more. The bytes are not there to be read: whoever looks at one of them fails.
func TestLongestNested(t *testing.T) {
	room, err := syscall.Mmap(-1, 0, 1<<32, syscall.PROT_NONE, syscall.MAP_ANON|syscall.MAP_PRIVATE|syscall.MAP_NORESERVE)
	if err != nil {
		t.Skip("no room of 2^32 bytes here:", err)
	}
	defer syscall.Munmap(room)
	c := least()
	c.Subs = [][]byte{{1}, room[:1<<32-1]}
	if wrong := container.Check(c); wrong != api.OK {
		t.Errorf("2^32 - 1: %v", wrong)
	}
	if n, wrong := container.Size(c); n != 20+3+8+1+1<<32-1 || wrong != api.OK {
		t.Errorf("2^32 - 1: Size %d, %v", n, wrong)
	}
	c.Subs[1] = room
	c.Size = 65536
	wantCheck(t, "2^32", c, api.ErrLong)
	c.Size = -1
	wantCheck(t, "2^32, ahead of clause 6", c, api.ErrLong)
	c.Subs[0] = nil
	wantCheck(t, "none ahead of 2^32", c, api.ErrNone)
	c.Subs = [][]byte{room, nil}
	wantCheck(t, "2^32 ahead of none", c, api.ErrLong)
}
