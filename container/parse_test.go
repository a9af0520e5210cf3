package container_test

import (
	"slices"
	"testing"

	"vouch/api"
)

// both asks for something open and not.
func both(ask func(open bool)) {
	ask(false)
	ask(true)
}

// values are numbers for a field of so many bytes: all of one byte, and those about each bound of more.
func values(wide int) []int {
	var out []int
	if wide == 1 {
		for n := range 256 {
			out = append(out, n)
		}
		return out
	}
	for _, n := range []int{0, 4, 8, 127, 128, 255, 256, 1023, 1024, 4096, 4100, 0x8000, 65535} {
		out = append(out, n, n+1, max(n-1, 0), n<<8&0xffff)
	}
	if wide == 4 {
		out = append(out, 1<<16, 1<<24, 1<<31-1, 1<<31, 1<<32-1, 0xef000101)
	} else {
		out = slices.DeleteFunc(out, func(n int) bool { return n > 65535 })
	}
	return out
}

// 5.3: the header of each form, cut at each byte of each field: ErrCut, at the end, whatever stands in the part that is there.
func TestHeaderCut(t *testing.T) {
	for _, c := range small() {
		b := laid(c)
		for _, s := range header(c) {
			for cut := s.at; cut < s.end(); cut++ {
				both(func(open bool) {
					wantRefused(t, b[:cut], open, api.ErrCut, cut)
					for _, other := range []int{0, 0x01010101, 0xfefefefe, 0xffffffff} {
						wantRefused(t, s.turned(b, other)[:cut], open, api.ErrCut, cut)
					}
				})
			}
		}
	}
}

// 5.3: each field of the header, wrong in each way: its error, at its first byte, whether the bytes end there or go on.
func TestHeaderWrong(t *testing.T) {
	for _, c := range small() {
		b := laid(c)
		for _, s := range header(c) {
			for _, n := range values(s.wide) {
				turned := s.turned(b, n)
				both(func(open bool) {
					if s.right(n) {
						wantTold(t, turned[:s.end()], open)
						wantTold(t, turned, open)
						return
					}
					wantRefused(t, turned[:s.end()], open, s.wrong, s.at)
					wantRefused(t, turned, open, s.wrong, s.at)
					wantRefused(t, append(turned, 1, 2, 3), open, s.wrong, s.at)
				})
			}
		}
	}
}

// 5.3: each number of two bytes in each field of the header that has two.
func TestHeaderAllNumbers(t *testing.T) {
	for _, c := range []api.Container{least(), made([]int{2, 1}, []int{3}, 1, 2)} {
		b := laid(c)
		for _, s := range header(c) {
			if s.wide != 2 {
				continue
			}
			for n := range 65536 {
				turned := s.turned(b, n)
				both(func(open bool) {
					if !s.right(n) {
						wantRefused(t, turned, open, s.wrong, s.at)
					} else if n < 600 || n%256 == 0 {
						wantTold(t, turned, open)
					}
				})
			}
		}
	}
}

// 5.3: of two wrong fields the first one is told.
func TestHeaderFirstWrong(t *testing.T) {
	for _, c := range small() {
		if len(c.Codes) > 3 {
			continue
		}
		b, fields := laid(c), header(c)
		fields = slices.DeleteFunc(fields, func(s spot) bool { return s.wrong == api.OK })
		bad := func(s spot) int {
			if s.wide == 1 {
				return 0xaa
			}
			return 0
		}
		for i, first := range fields {
			for _, second := range fields[i+1:] {
				turned := second.turned(first.turned(b, bad(first)), bad(second))
				both(func(open bool) { wantRefused(t, turned, open, first.wrong, first.at) })
			}
		}
	}
}

// 5.3: the lengths of a header that are more than is there, up to the greatest that can be said.
func TestLengthsBeyond(t *testing.T) {
	for _, c := range small() {
		b := laid(c)
		for _, s := range header(c) {
			if s.wrong != api.ErrNone {
				continue
			}
			was := s.number(b)
			for _, more := range []int{c.Size - len(c.Data) + 1, 300, 65535 - was, 1<<31 - was, 1<<32 - 1 - was} {
				if was+more >= 1<<(8*s.wide) || more <= c.Size {
					continue
				}
				both(func(open bool) { wantRefused(t, s.turned(b, was+more), open, api.ErrCut, len(b)) })
			}
		}
	}
	all := made([]int{1}, many(256), 0, 0)
	b := laid(all)
	for _, s := range header(all) {
		if s.wide == 4 {
			b = s.turned(b, 1<<32-1)
		}
	}
	both(func(open bool) { wantRefused(t, b, open, api.ErrCut, len(b)) })
}

// 5.3, 5.6: each beginning of each form: whole, it is refused unless it is all; open, it is taken as soon as all but the data is there.
func TestBeginnings(t *testing.T) {
	for _, c := range small() {
		b := laid(c)
		k := len(b) - len(c.Data)
		for cut := range b {
			wantRefused(t, b[:cut], false, api.ErrCut, cut)
			if cut < k {
				wantRefused(t, b[:cut], true, api.ErrCut, cut)
				continue
			}
			less := c
			less.Data = c.Data[:cut-k]
			wantTaken(t, b[:cut], true, less)
		}
	}
}

// 5.6: the beginnings of long containers, about the end of each part.
func TestLongBeginnings(t *testing.T) {
	for _, c := range forms() {
		b := laid(c)
		fields := header(c)
		end := fields[len(fields)-1].end()
		k := len(b) - len(c.Data)
		for _, about := range []int{end, end + 4*len(c.Codes), k, len(b), len(b) / 2, len(b) / 3} {
			for cut := max(about-2, 0); cut < min(about+3, len(b)); cut++ {
				wantRefused(t, b[:cut], false, api.ErrCut, cut)
				if cut < k {
					wantRefused(t, b[:cut], true, api.ErrCut, cut)
				}
			}
		}
	}
}

// 5.3, 5.6: bytes behind what is declared are refused, open or not, where these begin.
func TestTail(t *testing.T) {
	for _, c := range forms() {
		c.Data = row(2, c.Size)
		b := laid(c)
		wantTaken(t, b, false, c)
		for _, tail := range [][]byte{{0}, {0xef}, {0xff, 0}, row(1, 100), raw(leastText)} {
			both(func(open bool) { wantRefused(t, slices.Concat(b, tail), open, api.ErrTail, len(b)) })
		}
	}
}

// 5.3: each field of each type, with every number that it can be.
func TestTypesWrong(t *testing.T) {
	for _, c := range []api.Container{least(), made([]int{2, 1, 3}, nil, 1, 1), made([]int{1, 1}, []int{2}, 2, 2)} {
		b := laid(c)
		fields := header(c)
		for i, s := range types(fields[len(fields)-1].end(), len(c.Codes)) {
			for n := range 1 << (8 * s.wide) {
				both(func(open bool) {
					if !s.right(n) {
						wantRefused(t, s.turned(b, n), open, api.ErrType, s.at)
						return
					}
					want := c
					want.Types = slices.Clone(c.Types)
					*[]*int{&want.Types[i/3].In, &want.Types[i/3].Out, &want.Types[i/3].Most}[i%3] = n
					wantTaken(t, s.turned(b, n), open, want)
				})
			}
		}
	}
}

// 5.3: of two wrong fields of types the first one is told; and a length ahead of both.
func TestTypesFirstWrong(t *testing.T) {
	c := made([]int{2, 1, 3, 2}, []int{2}, 3, 3)
	b := laid(c)
	head := header(c)
	fields := types(head[len(head)-1].end(), len(c.Codes))
	for i, first := range fields {
		one := first.turned(b, 0xfff0)
		for _, second := range fields[i+1:] {
			both(func(open bool) { wantRefused(t, second.turned(one, 0xfff0), open, api.ErrType, first.at) })
		}
		both(func(open bool) {
			wantRefused(t, append(slices.Clone(one), 0), open, api.ErrTail, len(b))
			wantRefused(t, one[:len(b)-4], open, api.ErrCut, len(b)-4)
		})
		wantRefused(t, one[:len(b)-1], false, api.ErrCut, len(b)-1)
		wantRefused(t, one[:len(b)-1], true, api.ErrType, first.at)
	}
}

// fixed is where the bytes stand that can be no others: the first three, the kinds, the closing one.
func fixed(c api.Container) []int {
	var out []int
	for _, s := range header(c) {
		if s.wide == 1 {
			out = append(out, s.at)
		}
	}
	return out
}

// 5.7: with one of the fixed bytes turned to any other value (of long containers to those that are fixed somewhere, and next to them) nothing that was taken is taken, open or not.
func TestFixedBytes(t *testing.T) {
	for _, c := range forms() {
		b := laid(c)
		where := fixed(c)
		for _, at := range where {
			was := b[at]
			for n := range 256 {
				b[at] = byte(n)
				if b[at] == was || len(b) > 700 && n > 4 && n < 0xfe && n != 0xef {
					continue
				}
				both(func(open bool) {
					if wantTold(t, b, open) {
						t.Fatalf("byte %d turned from %#x to %#x: taken", at, was, n)
					}
				})
			}
			b[at] = was
		}
	}
}

// 5.7: a kind 0x03 turned to 0xff, and back, in containers that go on being like one for as long as they can.
func TestTurnedKinds(t *testing.T) {
	for _, m := range []int{1, 2, 255, 256} {
		for _, n := range []int{0x8000, 0x8003} {
			subs := many(m)
			subs[0] = n
			c := made([]int{3}, subs, 0, 0)
			b := laid(c)
			b[11] = 0xff
			both(func(open bool) { wantRefused(t, b, open, api.ErrTail, 19+3+m) })
		}
	}
	for _, size := range []int{1, 2, 256} {
		for _, data := range []int{0, 1, size} {
			c := made([]int{30000}, nil, min(data, size), size)
			b := laid(c)
			b[11] = 0x03
			both(func(open bool) {
				if wrong, at := told(b, open); wrong == api.OK || wantTold(t, b, open) {
					t.Fatalf("taken: %v %d", wrong, at)
				}
			})
		}
	}
}

// 5.3, 5.7, W4: bytes by chance, and containers of which some bytes are turned, left out or put in, are told just as the model tells them.
func TestTurnedBytes(t *testing.T) {
	d := chance(57)
	seen := map[api.Errno]int{}
	hold := func(b []byte) {
		both(func(open bool) {
			wantTold(t, b, open)
			wrong, _ := told(b, open)
			seen[wrong]++
		})
	}
	for range 30000 {
		b := laid(drawn(d))
		for range 1 + d.IntN(3) {
			at := d.IntN(len(b))
			if d.IntN(2) == 0 {
				at = d.IntN(min(len(b), 30))
			}
			switch d.IntN(4) {
			case 0:
				b[at] = byte(d.Uint32())
			case 1:
				b[at] ^= 1 << d.IntN(8)
			case 2:
				b = slices.Delete(b, at, at+1)
			default:
				b = slices.Insert(b, at, byte(d.IntN(4)))
			}
		}
		hold(b)
	}
	for range 5000 {
		hold(append(raw("ef00010100"), row(d.IntN(1000), d.IntN(60))...))
		hold(row(d.IntN(1000), d.IntN(60)))
	}
	for _, wrong := range []api.Errno{api.OK, api.ErrCut, api.ErrMagic, api.ErrVersion, api.ErrKind, api.ErrTypes, api.ErrCodes, api.ErrNone, api.ErrSubs, api.ErrTail, api.ErrType} {
		if seen[wrong] < 20 {
			t.Errorf("%v only %d times", wrong, seen[wrong])
		}
	}
}
