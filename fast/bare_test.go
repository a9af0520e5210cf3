package fast_test

import (
	"bytes"
	"slices"
	"testing"

	"vouch/api"
)

func stopped(left uint64) api.Ending { return api.Ending{Kind: api.EndStop, Left: left} }

// ways are the places, one behind the other, at which a bare run of a frame stands.
func (x *frame) ways(t *testing.T, want ...api.Place) side {
	t.Helper()
	r := x.bare(t)
	var got []api.Place
	for range want {
		s := r.Sight()
		got = append(got, api.Place{Section: s.Section, At: s.At})
		r.Go(1)
	}
	if !slices.Equal(got, want) {
		t.Errorf("%v: %v, not %v", x, got, want)
	}
	return r
}

// places are places of section 0.
func places(l ...int) []api.Place {
	var out []api.Place
	for _, at := range l {
		out = append(out, api.Place{At: at})
	}
	return out
}

// 13.7, Bytes: behind a section's end STOP stands, by whatever way it is come to; what stands in other sections is not there.
func TestBareBehindTheEnd(t *testing.T) {
	coded("5f").bares(t, 2, api.Place{At: 1}, stopped(9998))
	coded("6001").bares(t, 2, api.Place{At: 2}, stopped(9997))
	coded("5b").gas(1).bares(t, 2, api.Place{At: 1}, stopped(0))
	coded("5b").gas(0).bares(t, 1, api.Place{}, halted(api.HaltGas))
	coded("5b").section(api.Type{Out: never}, raw("fe")).bares(t, 2, api.Place{At: 1}, stopped(9999))
	coded("e5 0001").section(api.Type{Out: never}, raw("5b")).section(api.Type{}, raw("fe")).bares(t, 3, api.Place{Section: 1, At: 1}, stopped(9994))
	coded("e0 0001 fe").bares(t, 2, api.Place{At: 4}, stopped(9998))
	coded("e0 7fff fe").bares(t, 2, api.Place{At: 32770}, stopped(9998))
	coded("6001 e1 0100 fe").bares(t, 3, api.Place{At: 5 + 256}, stopped(9993))
	coded("6001 e2 01 0000 0100 fe").bares(t, 3, api.Place{At: 8 + 256}, stopped(9993))
	coded("e3 0001").section(api.Type{}, raw("e4")).bares(t, 3, api.Place{At: 3}, stopped(9992)) // back behind a CALLF
	r := coded("5f 5f 5f 30 f8").bare(t)
	r.Go(9)
	r.Give(api.Reply{})
	r.ends(t, "answered at a section's end", 1, api.Place{At: 5}, stopped(5000))
	long := bytes.Repeat([]byte{0x5b}, api.MaxSection)
	of(long).gas(1<<20).bares(t, api.MaxSection+1, api.Place{At: api.MaxSection}, stopped(1<<20-api.MaxSection))
}

// 13.7, Bytes: immediate bytes behind the end are 0, k of a table too: each instruction that has some, cut at each of them.
func TestBareCutImmediateBytes(t *testing.T) {
	for size := 1; size <= 32; size++ {
		for cut := range size {
			coded("").turn(func(x *frame) { x.c.Codes[0] = append([]byte{byte(0x5f + size)}, counted(0xf1, cut)...) }).
				section(api.Type{Out: never}, bytes.Repeat([]byte{0xee}, 40)).
				bares(t, 2, api.Place{At: 1 + size}, stopped(9997))
		}
	}
	for _, x := range []struct {
		code      string
		steps, at int
		cost      uint64
	}{
		{"e0", 2, 3, 2}, {"e0 00", 2, 3, 2}, {"e0 01", 2, 259, 2}, {"e0 80", 2, 32771, 2}, {"e0 ff", 2, 65536 - 253, 2},
		{"5f e1", 3, 4, 6}, {"6001 e1", 3, 5, 7}, {"6001 e1 01", 3, 261, 7}, {"5f e1 01", 3, 4, 6},
		{"5f e2", 3, 5, 6}, {"6001 e2", 3, 6, 7}, {"5f e2 00", 3, 5, 6}, {"5f e2 00 01", 3, 261, 6}, {"5f e2 02", 3, 9, 6}, {"6002 e2 02 7777 7777", 3, 10, 7}, {"6002 e2 02 7777 7777 01", 3, 266, 7},
		{"6003 e2 02 7777", 3, 10, 7}, {"6001 e2 ff", 3, 2 + 2 + 512, 7}, {"60ff e2 ff", 3, 2 + 2 + 512, 7},
		{"d1", 2, 3, 3}, {"d1 00", 2, 3, 3}, {"5f e6", 3, 3, 5}, {"5f 5f e7", 4, 4, 7}, {"5f 5f 5f e8", 5, 5, 9},
	} {
		coded(x.code).bares(t, x.steps, api.Place{At: x.at}, stopped(10000-x.cost))
	}
	two := func(code string) *frame { return coded(code).section(api.Type{Out: never}, raw("fe")) }
	two("e5").gas(12).ways(t, places(0, 0, 0)...)
	two("e5 00").gas(12).ways(t, places(0, 0, 0)...)
	two("e3").ways(t, places(0, 0, 0)...)
	if s := two("e3").ways(t, places(0, 0)...).Sight(); s != (api.Sight{Returns: 2, Left: 9990}) {
		t.Errorf("%+v", s)
	}
	two("e5 01").turn(func(x *frame) { // section 256
		for range 300 {
			x.section(api.Type{Out: never}, raw("fe"))
		}
		x.c.Codes[256] = raw("00")
	}).bares(t, 2, api.Place{Section: 256}, stopped(9995))
	r := coded("5f 5f 5f 5f ec").subs(least(0xfe)).gas(50000).bare(t)
	r.Go(many)
	if asked, ok := r.Asked(); !ok || asked.Kind != api.AskMake || asked.Sub != 0 {
		t.Errorf("%+v, %v", asked, ok)
	}
	r.Give(api.Reply{})
	if s := r.Sight(); s.At != 6 {
		t.Errorf("%+v", s)
	}
	coded("5f 5f ee").subs(least(0x00)).bares(t, 3, api.Place{At: 2}, api.Ending{Kind: api.EndDeploy, Output: least(0x00), Left: 10000 - 4 - 4000})
}

// ring is a frame whose section is as long as may be: it begins with a jump to what stands at its end; behind that the places come round to code at this place.
func ring(end []byte, next int, code []byte) *frame {
	all := bytes.Repeat([]byte{0x5b}, api.MaxSection)
	at := api.MaxSection - len(end)
	copy(all[at:], end)
	copy(all[next:], code)
	copy(all, []byte{0xe0, byte((at - 3) >> 8), byte(at - 3)})
	return of(all)
}

// 13.7, Bytes: what goes on above 65535 comes round; the immediate bytes that are missing are 0 all the same, not those at the section's beginning.
func TestBareGoesRound(t *testing.T) {
	for size := 4; size <= 32; size++ {
		for there := range size - 3 {
			imm, next := counted(0xf1, there), size-there-1
			x := ring(append([]byte{byte(0x5f + size)}, imm...), next, dump(1))
			want := append(zero(32-size), append(imm, zero(size-there)...)...)
			x.bares(t, 7, api.Place{At: next + 4}, api.Ending{Kind: api.EndRevert, Output: want, Left: 10000 - 2 - 3 - 2 - 6 - 2 - 2})
		}
	}
	last := api.MaxSection - 1
	ring(raw("5b"), 3, nil).bares(t, 3, api.Place{At: api.MaxSection}, stopped(9997))
	ring(raw("6005"), 3, nil).bares(t, 3, api.Place{At: api.MaxSection}, stopped(9995))
	ring(raw("60"), 3, nil).ways(t, places(0, last, 0, last, 0)...)
	ring(raw("e0"), 3, nil).ways(t, places(0, last, 1)...)
	ring(raw("e0 00"), 3, nil).ways(t, places(0, last-1, 0, last-1)...)
	ring(raw("e0 0004"), 3, nil).ways(t, places(0, last-2, 3, 4)...)
	ring(raw("e0 01"), 3, nil).ways(t, places(0, last-1, 256, 257)...)
	ring(raw("5f e1 0005"), 3, nil).ways(t, places(0, last-3, last-2, api.MaxSection)...)
	ring(raw("5b e1 0005"), 3, nil).ways(t, places(0, last-3, last-2, api.MaxSection)...)
	ring(raw("59 e1 0005"), 3, raw("00")).ways(t, places(0, last-3, last-2, api.MaxSection)...)
	ring(raw("30 e1 0005"), 3, nil).ways(t, places(0, last-3, last-2, 4, 5)...)
	ring(raw("5f e2 01"), 3, nil).ways(t, places(0, last-2, last-1, 3, 4)...)
	ring(raw("30 e2 01"), 3, nil).ways(t, places(0, last-2, last-1, 3, 4)...)
	ring(raw("5f e2 01 01"), 3, nil).ways(t, places(0, last-3, last-2, 2+256, 3+256)...)
}

// 13.7, Bytes: what a jump leads below 0 or above 65535 comes round.
func TestBareJumpsRound(t *testing.T) {
	coded("e0 8000").ways(t, places(0, 32771)...)
	coded("e0 fffc").bares(t, 2, api.Place{At: 65535}, stopped(9998))
	coded("e0 fffb").bares(t, 2, api.Place{At: 65534}, stopped(9998))
	coded("e0 fffd").gas(7).bares(t, 4, api.Place{}, halted(api.HaltGas)) // just to 0
	coded("6001 e1 fffa").bares(t, 3, api.Place{At: 65535}, stopped(9993))
	coded("6001 e2 01 0000 fff7").bares(t, 3, api.Place{At: 65535}, stopped(9993))
	coded("5f e2 01 8000 fff7").bares(t, 3, api.Place{At: 32775}, stopped(9994))
	// above: from places 65000 and 65532, as far as a jump leads
	far := ring(slices.Concat(raw("e0 7fff"), bytes.Repeat([]byte{0x5b}, 532)), 3, nil)
	far.ways(t, places(0, 65000, 65003+32767-65536)...)
	ring(raw("e0 7fff"), 3, nil).ways(t, places(0, 65532, 32766, 32767)...)
	ring(raw("e0 0001"), 3, nil).ways(t, places(0, 65532, 0, 65532)...)
	ring(raw("e0 0000"), 3, nil).bares(t, 3, api.Place{At: 65535}, stopped(9996))
	// below, and above again
	x := coded("e0 fff0 00")
	x.c.Codes[0] = append(x.c.Codes[0], bytes.Repeat([]byte{0x5b}, api.MaxSection-4)...)
	copy(x.c.Codes[0][65536-13:], raw("e0 7ff0"))
	x.ways(t, places(0, 65523, 65526+0x7ff0-65536)...)
}

// 13.7, Bytes: the place behind a CALLF, and behind what asks, comes round too.
func TestBareReturnsRound(t *testing.T) {
	// section 0 goes to section 1, or back where it was called from, as a word says that it takes
	x := of(raw("e1 0003 e5 0001 5b e4")).section(api.Type{Out: never}, bytes.Repeat([]byte{0x5b}, api.MaxSection))
	copy(x.c.Codes[1], raw("5b 30 e0 fff9"))
	x.c.Codes[1][api.MaxSection-1] = 0xe3
	at := func(l ...int) (out []api.Place) {
		for i := 0; i < len(l); i += 2 {
			out = append(out, api.Place{Section: l[i], At: l[i+1]})
		}
		return out
	}
	x.ways(t, at(0, 0, 0, 3, 1, 0, 1, 1, 1, 2, 1, 65534, 0, 0, 0, 6, 0, 7, 1, 1)...)
	r := ring(raw("ec"), 0, nil).subs(least(0xfe)).gas(100000).bare(t)
	if made := r.Go(many); made != 2 || r.State() != api.Asking || r.Sight().At != 65534 {
		t.Fatalf("%d steps, %+v", made, r.Sight())
	}
	r.Give(api.Reply{})
	if s := r.Sight(); s.At != 0 || s.State != api.Going {
		t.Errorf("%+v", s)
	}
}

// 13.7, Instructions: a byte that is no instruction halts as INVALID does: at no cost, and leaves nothing.
func TestBareNoInstructions(t *testing.T) {
	none := 0
	for code := range 256 {
		if _, there := table[code]; there && code != 0xfe {
			continue
		}
		none++
		for _, kind := range []int{api.Runtime, api.Init} {
			for _, gas := range []uint64{0, 1, 10000} {
				x := of([]byte{byte(code)}).gas(gas)
				x.f.Kind = kind
				x.bares(t, 1, api.Place{}, halted(api.HaltInvalid))
			}
		}
		of(raw("6001 5f 52"), []byte{byte(code), 0}).bares(t, 4, api.Place{At: 4}, halted(api.HaltInvalid))
	}
	if none != 256-153+1 {
		t.Errorf("%d", none)
	}
}

// 13.7, Instructions: none is barred.
func TestBareBarsNothing(t *testing.T) {
	for _, kind := range []int{api.Runtime, api.Init} {
		turned := func(x *frame) *frame { x.f.Kind = kind; return x }
		turned(coded("00")).bares(t, 1, api.Place{}, stopped(10000))
		turned(coded("6001 5f f3")).bares(t, 3, api.Place{At: 3}, api.Ending{Kind: api.EndReturn, Output: []byte{0}, Left: 10000 - 5 - 3})
		turned(coded("6001 5f ee00")).subs(sized(0x00, 1, 0)).bares(t, 3, api.Place{At: 3}, api.Ending{Kind: api.EndDeploy, Output: append(sized(0x00, 1, 0), 0), Behind: []byte{0}, Left: 10000 - 5 - 3 - 4200})
	}
}

// 13.7, Data: DATALOADN leaves the row, within the data, over their end, and behind it.
func TestBareDataWords(t *testing.T) {
	b := counted(1, 40)
	row := append(slices.Clone(b), zero(70000)...)
	for _, at := range []int{0, 8, 9, 39, 40, 41, 255, 256, 65535} {
		x := of([]byte{0xd1, byte(at >> 8), byte(at)}, dump(1)).data(b)
		want := api.Ending{Kind: api.EndRevert, Output: row[at : at+32], Left: 10000 - 3 - 2 - 6 - 2 - 2}
		x.bares(t, 6, api.Place{At: 7}, want)
		x.c.Size = 90 // declared longer than they are
		x.bares(t, 6, api.Place{At: 7}, want)
	}
	of(raw("d1 0000"), dump(1)).bares(t, 6, api.Place{At: 7}, api.Ending{Kind: api.EndRevert, Output: zero(32), Left: 10000 - 15})
}
