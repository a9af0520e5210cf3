package audit_test

import (
	"bytes"
	"fmt"
	"runtime"
	"slices"
	"testing"
	"weak"

	"vouch/api"
	"vouch/audit"
)

// roomy is a list with spare room behind it, in which marks stand.
func roomy[T any](l []T, mark T) []T {
	out := make([]T, len(l)+5)
	copy(out, l)
	for i := len(l); i < len(out); i++ {
		out[i] = mark
	}
	return out[:len(l)]
}

// roomyList has spare room in each of its lists; the room behind the list holds accounts whose code is refused.
func roomyList(l []api.Account) []api.Account {
	l = roomy(l, at(e, 1, raw("00")))
	for i, x := range l {
		l[i].Code = roomy(x.Code, 0x5b)
		l[i].Slots = roomy([]api.Slot{{Key: n(2), Value: n(1)}, {Key: n(1)}}, api.Slot{Key: n(3), Value: n(3)})
	}
	return l
}

// R3: the list, its codes and slots, and the rooms behind them stay as they were; what stands in a room says nothing.
func TestGivenStays(t *testing.T) {
	g := draw(192)
	for i := range 6 {
		l, want := g.shuffled(samples(), i%3)
		l = roomyList(l)
		were := text(l)
		for _, workers := range []int{1, 2, 5, api.MaxWorkers, 0, -1, api.MaxWorkers + 1} {
			got, wrong := audit.Audit(l, workers)
			if wrong == api.OK {
				alike(t, workers, got, want)
			}
			if text(l) != were {
				t.Fatalf("list %d by %d: it has changed", i, workers)
			}
		}
	}
}

// writeOver writes verdicts over, their spare room too, and what grows out of them.
func writeOver(all []api.Verdict) {
	for i := range all[:cap(all)] {
		x := &all[:cap(all)][i]
		x.Address[3] ^= 0x55
		path := x.Reject.Path[:cap(x.Reject.Path)]
		for j := range path {
			path[j] ^= 0x55
		}
		x.Reject.Path = append(x.Reject.Path, 7, 7, 7)
		x.Reject.Section, x.Reject.At = -1, -1
	}
	_ = append(all, api.Verdict{Address: e})
}

// copied is verdicts that share nothing with these.
func copied(all []api.Verdict) []api.Verdict {
	all = slices.Clone(all)
	for i, x := range all {
		all[i].Reject.Path = slices.Clone(x.Reject.Path)
	}
	return all
}

// R3: what is answered is new memory: written over and grown it changes no other answer, nor the list; asked again the answer is the same.
func TestAnsweredIsNew(t *testing.T) {
	g := draw(193)
	l, want := g.shuffled(samples(), 2)
	were := text(l)
	for _, workers := range []int{1, 3, api.MaxWorkers} {
		first, second := audited(t, "first", l, workers), audited(t, "second", l, workers)
		writeOver(first)
		alike(t, "beside one that was written over", second, want)
		alike(t, "behind one that was written over", audited(t, "third", l, workers), want)
		if text(l) != were {
			t.Fatal("the list has changed")
		}
	}
}

// R3: no two paths of one answer share anything, of accounts with one and the same code neither: each is written over and grown in turn.
func TestPathsAreTheirOwn(t *testing.T) {
	fine := bytesOf(stuck())
	deep := makes(fine, makes(fine, fine, makes(fine, raw("ef"))))
	other := makes(fine, makes(fine, fine, makes(fine, raw("ee"))))
	idle := bytesOf(with(of(typed(0), "fe"), fine))
	var l []api.Account
	for i := range 24 {
		l = append(l, at(addr(i%7), 1, [][]byte{deep, deep, other, idle, deep, fine}[i%6]))
	}
	for _, workers := range []int{1, 4, api.MaxWorkers} {
		for i := range l {
			got := audited(t, i, l, workers)
			want := copied(got)
			path := got[i].Reject.Path
			for j := range path[:cap(path)] {
				path[:cap(path)][j] = -5
			}
			_ = append(path, 9, 9)
			want[i].Reject.Path = slices.Repeat([]int{-5}, len(path))
			alike(t, fmt.Sprint(i, " written over"), got, want)
		}
	}
}

// R3, R4: nothing is kept from call to call: a code that is written over, in its place, is judged as it is then; so is a list.
func TestNothingIsKept(t *testing.T) {
	g := draw(194)
	all := slices.DeleteFunc(samples(), func(x sample) bool { return len(x.code) > 2000 })
	room := make([]byte, 2000)
	l := []api.Account{at(a, 1, nil), at(b, 1, nil)}
	for range 400 {
		x, y := pick(g, all...), pick(g, all...)
		l[0].Code, l[1].Code = room[:copy(room, x.code)], y.code
		l[0].Address[0]++
		for _, workers := range []int{1, 2, 9} {
			alike(t, x.name+", "+y.name, audited(t, x.name, l, workers), []api.Verdict{saying(l[0].Address, x.no), saying(b, y.no)})
		}
	}
}

// R3: what was handed in is let go of: whoever has the answer alone holds neither the list nor a code.
func TestLetGo(t *testing.T) {
	l := []api.Account{at(a, 1, bytes.Clone(long(1))), at(b, 1, bytes.Clone(makes(raw("ef")))), at(c, 1, raw("ef"))}
	list, codes := weak.Make(&l[0]), []weak.Pointer[byte]{}
	for _, x := range l {
		codes = append(codes, weak.Make(&x.Code[0]))
	}
	got := audited(t, "let go", l, 3)
	l = nil
	runtime.GC()
	runtime.GC()
	if list.Value() != nil {
		t.Error("the list is held")
	}
	for i, code := range codes {
		if code.Value() != nil && i != 2 { // one so small stands beside others
			t.Errorf("code %d is held", i)
		}
	}
	alike(t, "let go", got, []api.Verdict{{Address: a}, saying(b, no(api.ErrCut, 0, 1, 0)), saying(c, no(api.ErrCut, 0, 1))})
}

// R3: nil and an empty list are the same.
func TestNilAndEmpty(t *testing.T) {
	for _, l := range [][]api.Account{nil, {}, roomy([]api.Account{}, at(e, 1, raw("00")))} {
		tells(t, "none", l)
	}
	for _, code := range [][]byte{nil, {}, roomy([]byte{}, 0xef)} {
		for _, slots := range [][]api.Slot{nil, {}, roomy([]api.Slot{}, api.Slot{Key: n(1), Value: n(1)})} {
			x := at(a, 1, code)
			x.Slots = slots
			tells(t, "no code", []api.Account{x, at(b, 1, raw("ef")), x}, saying(b, no(api.ErrCut, 0, 1)))
		}
	}
}
