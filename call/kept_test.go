package call_test

import (
	"bytes"
	"fmt"
	"runtime"
	"slices"
	"testing"
	"weak"

	"vouch/api"
	"vouch/call"
	"vouch/world"
)

// roomy is a list with spare room behind it, in which marks stand.
func roomy[T any](l []T, mark T) []T {
	out := make([]T, len(l)+5)
	copy(out, l)
	for i := len(l); i < len(out); i++ {
		out[i] = mark
	}
	return out[:len(l)]
}

// teller is a world in which B calls C, which tells block and blobs by logs, its Input too; then B tells its own Input; and it can be made with as well.
func teller(t testing.TB) (*world.World, api.Block, api.Message) {
	t.Helper()
	says := join(raw("6001 43 03 40 5f 52"), raw("5f 49 6020 52"), raw("5f 35 6040 52"), pushed(n(0), n(96), n(4)), raw("a1"))
	code := with(nest(coded(stop)), says, raw("6003 5f"), raw("ee00"))
	isValid(t, code, api.Init)
	asks := join(raw("36 5f 5f 37"), raw("5f 36 5f"), pushed(wordOf(c)), raw("f8 50"))
	w := made(t, rich, at(b, 0, coded(asks, says, asks, raw("6020 5f f3"))), at(c, 0, coded(says, stop)))
	block := api.Block{Number: 9, Hashes: roomy([]api.Hash{{1: 1}, {2: 2}}, api.Hash{0xaa})}
	m := from(1000000)
	m.Input, m.Blobs, m.Init = roomy([]byte{1, 2, 3}, 0xaa), roomy([]api.Hash{{3: 3}}, api.Hash{0xaa}), roomy(code, 0xaa)
	return w, block, m
}

// spoilt writes all lists over that were handed in, their spare room too.
func spoilt(b api.Block, m api.Message) {
	for _, l := range [][]byte{m.Input, m.Init} {
		l = l[:cap(l)]
		for i := range l {
			l[i] ^= 0x55
		}
	}
	for _, l := range [][]api.Hash{m.Blobs, b.Hashes} {
		l = l[:cap(l)]
		for i := range l {
			l[i][i%32] ^= 0x55
		}
	}
}

// 14.10, R3: what was handed in is not changed, its spare room neither; and it may be written over behind New: the run goes as it would have gone.
func TestHandedIn(t *testing.T) {
	for _, engine := range engines {
		for _, makes := range []bool{false, true} {
			w, block, m := teller(t)
			m.Make = makes
			was := fmt.Sprintf("%x %x %x %x", m.Input[:cap(m.Input)], m.Init[:cap(m.Init)], m.Blobs[:cap(m.Blobs)], block.Hashes[:cap(block.Hashes)])
			r, wrong := call.New(w, block, m, engine)
			if wrong != api.OK {
				t.Fatal(wrong)
			}
			r.Go(many)
			want, _ := r.Ended()
			if is := fmt.Sprintf("%x %x %x %x", m.Input[:cap(m.Input)], m.Init[:cap(m.Init)], m.Blobs[:cap(m.Blobs)], block.Hashes[:cap(block.Hashes)]); is != was {
				t.Errorf("what was handed in has changed: %s\n%s", was, is)
			}
			if want.Status != api.Done || len(want.Logs) != map[bool]int{false: 3, true: 1}[makes] || bytes.Equal(want.Logs[0].Data[:64], make([]byte, 64)) {
				t.Fatalf("%+v", want)
			}
			for _, steps := range []int{0, 5, 30} {
				other, block, m := teller(t)
				m.Make = makes
				r, _ := call.New(other, block, m, engine)
				r.Go(steps)
				spoilt(block, m)
				r.Go(many)
				got, _ := r.Ended()
				wants(t, fmt.Sprintf("written over behind %d steps", steps), got, want)
				if told(other) != told(w) {
					t.Error("the worlds are not alike")
				}
			}
		}
	}
}

// scribbled writes a result's lists over, and behind them.
func scribbled(x api.Result) {
	for i := range x.Output {
		x.Output[i] ^= 0xff
	}
	_ = append(x.Output, 1, 2, 3)
	for i := range x.Logs {
		for j := range x.Logs[i].Topics {
			x.Logs[i].Topics[j] = n(77)
		}
		for j := range x.Logs[i].Data {
			x.Logs[i].Data[j] ^= 0xff
		}
		_ = append(x.Logs[i].Topics, n(1), n(2))
		_ = append(x.Logs[i].Data, 1, 2)
		x.Logs[i] = api.Log{}
	}
	_ = append(x.Logs, api.Log{}, api.Log{})
}

// copied is a result that shares nothing with x.
func copied(x api.Result) api.Result {
	x.Output, x.Logs = slices.Clone(x.Output), slices.Clone(x.Logs)
	for i := range x.Logs {
		x.Logs[i].Topics, x.Logs[i].Data = slices.Clone(x.Logs[i].Topics), slices.Clone(x.Logs[i].Data)
	}
	return x
}

// 14.10, R3: what Ended answers is new memory: written over and asked again it is the same; no two answers share any; and the world's logs stay.
func TestAnswered(t *testing.T) {
	for _, engine := range engines {
		w, block, m := teller(t)
		r, _ := call.New(w, block, m, engine)
		r.Go(many)
		first, _ := r.Ended()
		want := copied(first)
		was := told(w)
		second, _ := r.Ended()
		scribbled(first)
		wants(t, "another answer", second, want)
		scribbled(second)
		third, _ := r.Ended()
		wants(t, "asked again", third, want)
		if told(w) != was {
			t.Error("the world has changed")
		}
		// the lists of one answer share nothing: what is put behind one is not seen in another
		for i := range third.Logs {
			for j := range third.Logs[i].Data {
				third.Logs[i].Data[j] = byte(i + 1)
			}
			third.Logs[i].Data = append(third.Logs[i].Data, 9)
			third.Logs[i].Topics = append(third.Logs[i].Topics, n(9))
		}
		for i, l := range third.Logs {
			if l.Data[0] != byte(i+1) || l.Data[95] != byte(i+1) || l.Data[96] != 9 || l.Topics[0] != n(4) || l.Topics[1] != n(9) {
				t.Errorf("log %d: %+v", i, l)
			}
		}
		// and what is done to the world behind the end is not told
		w.Tell(api.Log{Address: e})
		w.Owe(5000)
		w.Begin()
		fourth, _ := r.Ended()
		wants(t, "behind another Begin", fourth, want)
	}
}

// 14.10: the world is changed as the run goes on: what each step does is there behind it; and to look changes nothing.
func TestLookedAtBetween(t *testing.T) {
	for _, engine := range engines {
		w := made(t, rich, at(b, 5, coded(store(1, 7), calls(c, 2), drop, tstore(1, 4), stop)), at(c, 0, coded(store(2, 8), tell(1), reverts)))
		r := begun(t, w, valued(3, 500000), engine)
		looks := func(what string, is bool) {
			t.Helper()
			if !is {
				t.Errorf("%s:\n%s", what, told(w))
			}
		}
		looks("at first", w.Balance(b) == n(8) && w.Get(b, n(1)) == n(0))
		r.Go(2)
		looks("ahead of SSTORE", w.Get(b, n(1)) == n(0))
		r.Go(1)
		looks("behind SSTORE", w.Get(b, n(1)) == n(7) && w.Original(b, n(1)) == n(0))
		r.Go(5)
		looks("behind EXTCALL", w.Balance(b) == n(6) && w.Balance(c) == n(2) && warm(w, c))
		r.Go(3)
		looks("behind SSTORE of C", w.Get(c, n(2)) == n(8))
		r.Go(4)
		looks("behind LOG", len(w.Logs()) == 1)
		r.Go(3)
		looks("behind REVERT", w.Balance(b) == n(8) && w.Balance(c) == n(0) && w.Get(c, n(2)) == n(0) && len(w.Logs()) == 0 && w.Get(b, n(1)) == n(7))
		r.Go(4)
		looks("behind TSTORE", w.TGet(b, n(1)) == n(4))
		if _, ended := r.Ended(); ended || r.Go(2) != 1 {
			t.Error("not ahead of STOP")
		}
		// with all of it looked at, at every step
		w, block, m := teller(t)
		plain, _ := call.New(w, block, m, engine)
		plain.Go(many)
		want, _ := plain.Ended()
		other, block, m := teller(t)
		r, _ = call.New(other, block, m, engine)
		for r.Go(1) == 1 {
			if told(other) == "" || len(other.Accounts()) == 0 {
				t.Fatal("nothing is told")
			}
			r.Next()
			r.Ended()
		}
		got, _ := r.Ended()
		wants(t, "looked at", got, want)
		if told(w) != told(other) {
			t.Error("the worlds are not alike")
		}
	}
}

// 14.10: no mark is left behind any end; and marks that stood ahead of the message are gone (the world's Begin).
func TestNoMarkIsLeft(t *testing.T) {
	for _, engine := range engines {
		for _, x := range allEnds() {
			w := made(t, rich, at(b, 5, coded(calls(c, 2), drop, x.code)), at(c, 0, coded(x.code)))
			w.Mark()
			w.Mark()
			through(t, w, from(300000), engine)
			if mark := w.Mark(); mark != 0 {
				t.Errorf("%s: the next mark is %d", x.name, mark)
			}
		}
		for _, row := range makeEnds() {
			w := made(t, rich)
			through(t, w, making(with(append(nest(maker()), row.subs...), busy, row.code), 8000000), engine)
			if mark := w.Mark(); mark != 0 {
				t.Errorf("%s: the next mark is %d", row.name, mark)
			}
		}
	}
}

// 14.10: two messages one behind the other over one world: the second one finds what the first has left, and knows nothing of what it knew; the first one's run tells the same still.
func TestOneBehindTheOther(t *testing.T) {
	for _, engine := range engines {
		for _, next := range engines {
			code := coded(load(1), raw("6001 01 6001 55"), raw("5f 5c 6001 01 5f 5d"), raw("5f 5c"), tell(5), warms(c), answers)
			w := made(t, rich, at(b, 0, code))
			r := begun(t, w, valued(3, 100000), engine)
			r.Go(many)
			first, _ := r.Ended()
			if first.Status != api.Done || w.Get(b, n(1)) != n(1) {
				t.Fatalf("%+v", first)
			}
			second := begun(t, w, valued(4, 100000), next)
			if len(w.Logs()) != 0 || w.Owed() != 0 || warm(w, c) || w.Original(b, n(1)) != n(1) {
				t.Error("something is left of the first one")
			}
			second.Go(many)
			got, _ := second.Ended()
			// 19900 were paid to set the slot, now it is 2800
			want := copied(first)
			want.Left += 19900 - 2800
			wants(t, "the second one", got, want)
			if w.Get(b, n(1)) != n(2) || w.Balance(b) != n(7) {
				t.Error(accounts(w))
			}
			again, _ := r.Ended()
			wants(t, "the first one", again, first)
			if _, more := r.Next(); more || r.Go(4) != 0 {
				t.Error("the first one goes on")
			}
		}
	}
}

// 14.10: the lists that were handed in are let go, once New has answered; and behind the end what frames were given.
func TestLetGo(t *testing.T) {
	for _, engine := range engines {
		w := made(t, rich, at(b, 0, coded(raw("5f 50 00"))))
		lists := func() (*call.Run, []weak.Pointer[[1024]byte]) {
			input, start, hashes := new([1024]byte), new([1024]byte), new([1024]byte)
			m := from(50)
			m.Input, m.Init = input[:], start[:]
			for range 20 {
				m.Blobs = append(m.Blobs, api.Hash(hashes[:32]))
			}
			r, _ := call.New(w, api.Block{}, m, engine)
			return r, []weak.Pointer[[1024]byte]{weak.Make(input), weak.Make(start), weak.Make(hashes)}
		}
		r, all := lists()
		runtime.GC()
		for i, x := range all {
			if x.Value() != nil {
				t.Errorf("the list %d is held", i)
			}
		}
		runtime.KeepAlive(r)
		held := weak.Make(w)
		r.Go(many)
		w = nil
		runtime.GC()
		if held.Value() != nil {
			t.Error("the world is held behind the end")
		}
		if x, ended := r.Ended(); !ended || x.Status != api.Done {
			t.Errorf("%+v", x)
		}
	}
}
