package container_test

import (
	"bytes"
	"math"
	"slices"
	"sync"
	"testing"

	"vouch/api"
	"vouch/container"
)

// ask makes every call there is.
func ask(c api.Container, b []byte) {
	container.Check(c)
	container.Serialize(c)
	container.Size(c)
	container.Lay(c, b)
	both(func(open bool) { container.Parse(b, open) })
}

// R1: no call panics, at any argument.
func TestNoPanic(t *testing.T) {
	d := chance(1)
	edges := []int{math.MinInt, math.MaxInt, math.MinInt32, math.MaxInt32, math.MaxUint32, -1, 0, 1, 127, 128, 1023, 65535, 65536}
	pick := func() int { return edges[d.IntN(len(edges))] }
	list := func() []byte {
		if d.IntN(6) == 0 {
			return nil
		}
		return row(d.IntN(256), d.IntN(4))
	}
	ask(api.Container{}, nil)
	for range 20000 {
		c := drawn(d)
		for range d.IntN(4) {
			switch d.IntN(7) {
			case 0:
				c.Size = pick()
			case 1:
				c.Types = append(c.Types, api.Type{In: pick(), Out: pick(), Most: pick()})
			case 2:
				c.Types[d.IntN(len(c.Types))] = api.Type{In: pick(), Out: pick(), Most: pick()}
			case 3:
				c.Codes = append(c.Codes, list())
			case 4:
				c.Subs = append(c.Subs, list())
			case 5:
				c.Data = list()
			default:
				c.Codes = c.Codes[:d.IntN(len(c.Codes)+1)]
			}
		}
		b := laid(drawn(d))
		if d.IntN(2) == 0 {
			b[d.IntN(len(b))] = byte(d.Uint32())
		}
		ask(c, b[:d.IntN(len(b)+1)])
	}
	for first := range 256 {
		for second := range 256 {
			ask(least(), append(raw("ef0001010004020001000103"), byte(first), byte(second), 255, 255, 255, 255))
		}
	}
}

// roomy is a list with spare room that can be told.
func roomy(b []byte) []byte {
	room := append(slices.Clone(b), row(77, 40)...)
	return room[:len(b):len(room)]
}

// roomyContainer is a container whose lists all have spare room.
func roomyContainer(c api.Container) api.Container {
	lists := func(pieces [][]byte) [][]byte {
		out := make([][]byte, 0, len(pieces)+5)
		for _, piece := range pieces {
			out = append(out, roomy(piece))
		}
		out = append(out, row(50, 3), row(51, 3))
		return out[:len(pieces)]
	}
	types := append(slices.Clone(c.Types), api.Type{In: 5}, api.Type{In: 6})
	return api.Container{Types: types[:len(c.Types)], Codes: lists(c.Codes), Subs: lists(c.Subs), Data: roomy(c.Data), Size: c.Size}
}

// opened is a container with the spare room of each list shown.
func opened(c api.Container) api.Container {
	lists := func(pieces [][]byte) [][]byte {
		var out [][]byte
		for _, piece := range pieces[:cap(pieces)] {
			out = append(out, piece[:cap(piece)])
		}
		return out
	}
	return api.Container{Types: c.Types[:cap(c.Types)], Codes: lists(c.Codes), Subs: lists(c.Subs), Data: c.Data[:cap(c.Data)], Size: c.Size}
}

// cloned is a container in memory of its own.
func cloned(c api.Container) api.Container {
	lists := func(pieces [][]byte) [][]byte {
		var out [][]byte
		for _, piece := range pieces {
			out = append(out, slices.Clone(piece))
		}
		return out
	}
	return api.Container{Types: slices.Clone(c.Types), Codes: lists(c.Codes), Subs: lists(c.Subs), Data: slices.Clone(c.Data), Size: c.Size}
}

// spoil writes over every list of a container, and its spare room.
func spoil(c api.Container) {
	all := opened(c)
	for _, piece := range slices.Concat(all.Codes, all.Subs, [][]byte{all.Data}) {
		spoilBytes(piece)
	}
	for i := range all.Types {
		all.Types[i] = api.Type{In: -7, Out: -7, Most: -7}
	}
	for _, list := range [][][]byte{c.Codes[:cap(c.Codes)], c.Subs[:cap(c.Subs)]} {
		for i := range list {
			list[i] = []byte{9, 9, 9}
		}
	}
}

func spoilBytes(b []byte) {
	b = b[:cap(b)]
	for i := range b {
		b[i] ^= 0x5a
	}
}

// subjects are containers for what is asked of memory: open, so that data can be laid behind theirs.
func subjects() []api.Container {
	return []api.Container{least(), made([]int{3, 1, 8}, []int{4, 32, 1}, 5, 5), made([]int{64, 2}, []int{9}, 0, 3), made([]int{1, 2}, nil, 33, 40), made([]int{1, 1, 1, 1, 1}, []int{1, 1, 1, 1, 1}, 1, 1)}
}

// R3: what is handed in stays as it was, spare room and all.
func TestHandedInStays(t *testing.T) {
	for _, c := range append(subjects(), made([]int{1, 0}, []int{2}, 3, 3), made([]int{1}, []int{2}, 3, 2)) {
		given, b := roomyContainer(c), roomy(laid(c))
		was, wasBytes := cloned(opened(given)), slices.Clone(b[:cap(b)])
		for cut := range len(b) + 1 {
			ask(given, b[:cut])
		}
		if !same(opened(given), was) || !bytes.Equal(b[:cap(b)], wasBytes) {
			t.Error("what was handed in has changed")
		}
	}
}

// R3: what is handed in is not kept: turned afterwards, it turns no answer.
func TestHandedInNotKept(t *testing.T) {
	for _, c := range subjects() {
		b := roomy(laid(c))
		taken, _ := container.Parse(b, true)
		spoilBytes(b)
		if !same(taken, c) {
			t.Error("Parse keeps the bytes")
		}
		given, behind := roomyContainer(c), roomy(row(4, 50))
		laidOut, wrong := container.Lay(given, behind)
		written, _ := container.Serialize(given)
		spoil(given)
		spoilBytes(behind)
		want := cloned(c)
		want.Data = append(want.Data, row(4, 50)...)
		want.Size = len(want.Data)
		if wrong != api.OK || !same(laidOut, want) {
			t.Error("Lay keeps what it was given")
		}
		if !bytes.Equal(written, laid(c)) {
			t.Error("Serialize keeps what it was given")
		}
	}
}

// R3: what is answered is the asker's: turned, spare room and all, it turns neither what was handed in nor another answer.
func TestAnswersAreNew(t *testing.T) {
	for _, c := range subjects() {
		b := roomy(laid(c))
		wasBytes := slices.Clone(b[:cap(b)])
		first, _ := container.Parse(b, true)
		second, _ := container.Parse(b, true)
		spoil(first)
		if !bytes.Equal(b[:cap(b)], wasBytes) || !same(second, c) {
			t.Error("Parse answers what is not new")
		}
		given, behind := roomyContainer(c), roomy(row(4, 50))
		was, wasBehind := cloned(opened(given)), slices.Clone(behind[:cap(behind)])
		for _, more := range [][]byte{behind, behind[:c.Size-len(c.Data)]} {
			third, _ := container.Lay(given, more)
			fourth, _ := container.Lay(given, more)
			kept := cloned(fourth)
			spoil(third)
			if !same(opened(given), was) || !bytes.Equal(behind[:cap(behind)], wasBehind) || !same(fourth, kept) {
				t.Error("Lay answers what is not new")
			}
		}
		written, _ := container.Serialize(given)
		again, _ := container.Serialize(given)
		spoilBytes(written)
		if !same(opened(given), was) || !bytes.Equal(again, laid(c)) {
			t.Error("Serialize answers what is not new")
		}
	}
}

// wantApart: no two lists of a container share memory, spare room neither: each is filled with a mark of its own, and all still have theirs at the end.
func wantApart(t *testing.T, c api.Container) {
	t.Helper()
	pieces := slices.Concat(c.Codes, c.Subs, [][]byte{c.Data})
	for i, piece := range pieces {
		piece = piece[:cap(piece)]
		for j := range piece {
			piece[j] = byte(i)
		}
	}
	for i, piece := range pieces {
		for _, x := range piece[:cap(piece)] {
			if x != byte(i) {
				t.Fatal("two lists of bytes share memory")
			}
		}
	}
	outer := [][][]byte{c.Codes[:cap(c.Codes)], c.Subs[:cap(c.Subs)]}
	for i, list := range outer {
		for j := range list {
			list[j] = make([]byte, i+1)
		}
	}
	for i, list := range outer {
		for j := range list {
			if len(list[j]) != i+1 {
				t.Fatal("the two lists of lists share memory")
			}
		}
	}
}

// R3: no two lists of one answer share memory, not even where those that were handed in do.
func TestListsApart(t *testing.T) {
	for _, c := range subjects() {
		taken, _ := container.Parse(laid(c), true)
		wantApart(t, taken)
		for _, behind := range [][]byte{row(1, 50), row(1, c.Size-len(c.Data))} {
			laidOut, wrong := container.Lay(c, behind)
			if wrong != api.OK {
				t.Fatal(wrong)
			}
			wantApart(t, laidOut)
		}
	}
	one := row(3, 40)
	shared := [][]byte{one[:8], one[4:20], one}
	c := api.Container{Types: made(many(3), nil, 0, 0).Types, Codes: shared, Subs: shared, Data: one[:10], Size: 20}
	laidOut, wrong := container.Lay(c, one[:20])
	if wrong != api.OK {
		t.Fatal(wrong)
	}
	wantApart(t, laidOut)
	if !bytes.Equal(one, row(3, 40)) {
		t.Error("what was handed in has changed")
	}
}

// R3: no list and an empty one are the same.
func TestNoneIsEmpty(t *testing.T) {
	none, empty := least(), least()
	empty.Subs, empty.Data = [][]byte{}, []byte{}
	for _, c := range []api.Container{none, empty} {
		wantBytes(t, c)
		for _, behind := range [][]byte{nil, {}} {
			wantLaid(t, c, behind, api.OK)
		}
	}
	for _, b := range [][]byte{nil, {}} {
		both(func(open bool) { wantRefused(t, b, open, api.ErrCut, 0) })
	}
	wantCheck(t, "empty lists", api.Container{Types: []api.Type{}, Codes: [][]byte{}}, api.ErrCodes)
	for _, hollow := range [][]byte{nil, {}} {
		wantCheck(t, "a section that is hollow", with(func(c *api.Container) { c.Codes[0] = hollow }), api.ErrNone)
		wantCheck(t, "a nested one that is hollow", with(func(c *api.Container) { c.Subs = [][]byte{hollow} }), api.ErrNone)
	}
}

// R4: the same call answers the same again, whatever was asked in between, beside others that ask, and whatever room lies behind what is handed in.
func TestSameAgain(t *testing.T) {
	var work sync.WaitGroup
	for worker := range 4 {
		work.Go(func() {
			d := chance(uint64(worker))
			for range 300 {
				c := drawn(d)
				b := laid(c)
				b[d.IntN(len(b))] ^= 1
				for range 3 {
					both(func(open bool) {
						first, wrong := container.Parse(b, open)
						second, other := container.Parse(roomy(b), open)
						if !same(first, second) || wrong.Code != other.Code || wrong.At != other.At {
							t.Error("Parse answers otherwise")
						}
					})
					written, _ := container.Serialize(c)
					again, _ := container.Serialize(roomyContainer(c))
					n, _ := container.Size(c)
					if !bytes.Equal(written, laid(c)) || !bytes.Equal(again, written) || n != len(again) {
						t.Error("Serialize or Size answers otherwise")
					}
					behind := row(d.IntN(256), d.IntN(90))
					first, wrong := container.Lay(c, behind)
					second, other := container.Lay(roomyContainer(c), roomy(behind))
					if wrong != other || !same(first, second) {
						t.Error("Lay answers otherwise")
					}
				}
			}
		})
	}
	work.Wait()
}
