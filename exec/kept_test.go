package exec_test

import (
	"fmt"
	"math"
	"runtime"
	"slices"
	"testing"
	"weak"

	"vouch/api"
	"vouch/call"
	"vouch/exec"
	"vouch/word"
)

// roomy is a list with spare room behind it, in which marks stand.
func roomy[T any](l []T, mark T) []T {
	out := make([]T, len(l)+5)
	copy(out, l)
	for i := len(l); i < len(out); i++ {
		out[i] = mark
	}
	return out[:len(l)]
}

// roomyAsk is one whose lists all have spare room, and are all told by the run: block, blobs, Input, codes, slots.
func roomyAsk(engine int) *ask {
	says := join(raw("6001 43 03 40 5f 52"), raw("5f 49 6020 52"), raw("5f 35 6040 52"), raw("6001 54 6060 52"), pushed(n(0), n(128), n(4)), raw("a1"))
	asks := with(nest(maker()), raw("36 5f 5f 37"), raw("5f 36 5f"), pushed(wordOf(c)), raw("f8 50"), says, makes(0, 0, 1), drop, raw("6020 5f f3"))
	x := &ask{engine: engine, m: valued(3, 1000000)}
	x.b = api.Block{Number: 9, Hashes: roomy([]api.Hash{{1: 1}, {2: 2}}, api.Hash{0xaa})}
	x.m.Input, x.m.Blobs, x.m.Init = roomy([]byte{1, 2, 3}, 0xaa), roomy([]api.Hash{{3: 3}}, api.Hash{0xaa}), roomy(maker(), 0xaa)
	slots := []api.Slot{{Key: n(1), Value: n(5)}, {Key: n(3), Value: n(6)}}
	mark := api.Slot{Key: n(0xaa), Value: n(0xaa)}
	x.l = roomy(list(rich, at(b, 9, roomy(asks, 0xaa)), at(c, 1, roomy(coded(says, stop), 0xaa))), at(addr(0xaa), 1, nil))
	x.l[1].Slots, x.l[2].Slots = roomy(slots, mark), roomy(slots, mark)
	return x
}

// text is all of it, the spare room too.
func (x *ask) text() string {
	out := fmt.Appendf(nil, "%x %x %x %x\n", x.m.Input[:cap(x.m.Input)], x.m.Init[:cap(x.m.Init)], x.m.Blobs[:cap(x.m.Blobs)], x.b.Hashes[:cap(x.b.Hashes)])
	for _, y := range x.l[:cap(x.l)] {
		out = fmt.Appendf(out, "%x %d %v %x %v\n", y.Address, y.Nonce, y.Balance, y.Code[:cap(y.Code)], y.Slots[:cap(y.Slots)])
	}
	return string(out)
}

// spoil writes all lists over, their spare room too.
func (x *ask) spoil() {
	for _, y := range x.l[:cap(x.l)] {
		scribbled(y.Code[:cap(y.Code)], y.Slots[:cap(y.Slots)])
	}
	scribbled(x.m.Input[:cap(x.m.Input)], nil)
	scribbled(x.m.Init[:cap(x.m.Init)], nil)
	for _, l := range [][]api.Hash{x.m.Blobs, x.b.Hashes} {
		for i := range l[:cap(l)] {
			l[:cap(l)][i][i%32] ^= 0x55
		}
	}
	for i := range x.l[:cap(x.l)] {
		x.l[:cap(x.l)][i] = at(addr(0x77), 77, nil)
	}
}

// scribbled writes bytes and slots over.
func scribbled(code []byte, slots []api.Slot) {
	for i := range code {
		code[i] ^= 0x55
	}
	for i := range slots {
		slots[i] = api.Slot{Key: n(0x77), Value: n(0x77)}
	}
}

// R3: what is handed in is not changed, its spare room neither, by any call, be the message taken or refused.
func TestHandedIn(t *testing.T) {
	for _, engine := range []int{api.Checked, api.Fast, 3} {
		for _, turn := range []func(x *ask){
			func(x *ask) {},
			func(x *ask) { x.m.Make = true },
			func(x *ask) { x.m.Still = true },
			func(x *ask) { x.m.Gas = 3000 },
			func(x *ask) { x.m.Make, x.m.Init = true, x.m.Init[:9] },
			func(x *ask) { x.l[2].Address = a },
			func(x *ask) { x.l[2].Code = x.l[2].Code[:9] },
			func(x *ask) { x.l[2].Slots[1].Value = n(0) },
		} {
			x := roomyAsk(engine)
			turn(x)
			was := x.text()
			exec.Execute(x.l, x.b, x.m, engine)
			if x.text() != was {
				t.Errorf("Execute has changed\n%s\ninto\n%s", was, x.text())
			}
			s, err := exec.Begin(x.l, x.b, x.m, engine)
			if err == nil {
				for s.Go(5) > 0 {
					s.Next()
					s.Ended()
				}
			}
			if x.text() != was {
				t.Errorf("Begin has changed\n%s\ninto\n%s", was, x.text())
			}
		}
	}
}

// writtenOver writes a result's and accounts' lists over, and behind them.
func writtenOver(x api.Result, behind []api.Account) {
	for i := range x.Output {
		x.Output[i] ^= 0xff
	}
	_ = append(x.Output, 1, 2, 3)
	for i, l := range x.Logs {
		scribbled(l.Data[:cap(l.Data)], nil)
		for j := range l.Topics[:cap(l.Topics)] {
			l.Topics[:cap(l.Topics)][j] = n(77)
		}
		x.Logs[i] = api.Log{}
	}
	_ = append(x.Logs, api.Log{}, api.Log{})
	for i, y := range behind {
		scribbled(y.Code[:cap(y.Code)], y.Slots[:cap(y.Slots)])
		behind[i] = at(addr(0x77), 77, nil)
	}
	_ = append(behind, at(addr(0x77), 77, nil), at(addr(0x77), 77, nil))
}

// R3, R4: what is answered is new memory: written over, and asked once more, it is the same, of Ended and of Execute; and what was handed in stays.
func TestAnswered(t *testing.T) {
	for _, engine := range engines {
		x := roomyAsk(engine)
		was := x.text()
		want := below(t, worldOf(t, x.l), x.b, x.m, engine)
		s := begun(t, x.l, x.b, x.m, engine)
		s.Go(many)
		first, behind, _ := s.Ended()
		second, later, _ := s.Ended()
		third, last := executed(t, x.l, x.b, x.m, engine)
		writtenOver(first, behind)
		wants(t, "another answer", second, want.result, later, want.accounts)
		writtenOver(second, later)
		wants(t, "Execute's", third, want.result, last, want.accounts)
		writtenOver(third, last)
		ended(t, "asked again", s, want)
		got, behind := executed(t, x.l, x.b, x.m, engine)
		wants(t, "executed again", got, want.result, behind, want.accounts)
		if x.text() != was {
			t.Error("what was handed in has changed")
		}
	}
}

// R3: no two lists of one answer share memory: each may be grown and written over, and no other one changes.
func TestListsOfOneAnswer(t *testing.T) {
	for _, engine := range engines {
		x := roomyAsk(engine)
		want := below(t, worldOf(t, x.l), x.b, x.m, engine)
		got, behind := executed(t, x.l, x.b, x.m, engine)
		if len(behind) != 4 || len(got.Logs) != 2 || len(got.Output) != 32 {
			t.Fatalf("%+v\n%s", got, text(behind))
		}
		check := func(what string) {
			t.Helper()
			wants(t, what, got, want.result, behind, want.accounts)
		}
		for i, y := range behind {
			scribbled(y.Code[:cap(y.Code)], nil)
			behind[i].Code = slices.Clone(want.accounts[i].Code)
			check("a code")
			scribbled(nil, y.Slots[:cap(y.Slots)])
			behind[i].Slots = slices.Clone(want.accounts[i].Slots)
			check("slots")
		}
		for i, y := range got.Logs {
			scribbled(y.Data[:cap(y.Data)], nil)
			got.Logs[i].Data = slices.Clone(want.result.Logs[i].Data)
			check("data of a log")
			for j := range y.Topics[:cap(y.Topics)] {
				y.Topics[:cap(y.Topics)][j] = n(77)
			}
			got.Logs[i].Topics = slices.Clone(want.result.Logs[i].Topics)
			check("topics of a log")
		}
		scribbled(got.Output[:cap(got.Output)], nil)
		got.Output = slices.Clone(want.result.Output)
		check("the output")
	}
}

// R3: what was handed in is let go, once Begin has answered; what was answered is not held.
func TestLetGo(t *testing.T) {
	for _, engine := range engines {
		type block = [1024]byte
		begin := func() (*exec.Start, []weak.Pointer[block]) {
			input, start, code := new(block), new(block), new(block)
			size := copy(code[:], coded(raw("5f 50 00")))
			l := list(rich, at(b, 0, code[:size]))
			m := from(50)
			m.Input, m.Init = input[:], start[:]
			return begun(t, l, api.Block{}, m, engine), []weak.Pointer[block]{weak.Make(input), weak.Make(start), weak.Make(code)}
		}
		s, all := begin()
		runtime.GC()
		for i, x := range all {
			if x.Value() != nil {
				t.Errorf("the list %d is held", i)
			}
		}
		s.Go(many)
		answer := func() weak.Pointer[api.Account] {
			_, behind, _ := s.Ended()
			return weak.Make(&behind[0])
		}
		told := answer()
		runtime.GC()
		if told.Value() != nil {
			t.Error("the accounts are held")
		}
		if x, _, ended := s.Ended(); !ended || x.Status != api.Done {
			t.Errorf("%+v", x)
		}
	}
}

// any is what Execute may be given: any numbers, bytes and lists.
func (g drawing) any() ask {
	numbers := []uint64{0, 1, 50, 100, 101, 60000, api.MaxGas, api.MaxGas + 1, math.MaxUint64}
	words := []api.Word{{}, n(1), n(100), {0, 1}, word.Not(n(0))}
	hashes := func(size int) []api.Hash { return make([]api.Hash, size) }
	m := api.Message{
		From:  pick(g, a, a, b, pick(g, known...), api.Address(g.bytes(20))),
		To:    pick(g, b, b, c, pick(g, known...), api.Address(g.bytes(20))),
		Value: pick(g, n(0), n(0), pick(g, words...)),
		Input: g.bytes(pick(g, 0, 1, 1000)),
		Gas:   min(pick(g, numbers...), pick(g, uint64(60000), 60000, 60000, math.MaxUint64)),
		Price: pick(g, words...),
		Blobs: hashes(pick(g, 0, 1, 700)),
		Still: g.IntN(4) == 0,
		Make:  g.IntN(3) == 0,
		Init:  pick(g, nil, g.bytes(g.IntN(60)), maker(), maker(), maker(store(1, 1)), coded(stop), make([]byte, api.MaxInit+1)),
		Salt:  pick(g, words...),
	}
	block := api.Block{
		Number: pick(g, numbers...), Time: pick(g, numbers...), Coinbase: pick(g, known...), Random: pick(g, words...), Limit: pick(g, numbers...),
		Chain: pick(g, words...), Base: pick(g, words...), BlobBase: pick(g, words...), Hashes: hashes(pick(g, 0, 1, api.MaxHashes, api.MaxHashes, api.MaxHashes+1)),
	}
	return ask{l: g.anyList(), b: block, m: m, engine: pick(g, api.Checked, api.Fast, api.Checked, api.Fast, 0, 3, -1, math.MinInt, math.MaxInt)}
}

// anyList is a list that is mostly a world.
func (g drawing) anyList() []api.Account {
	says := raw("6001 43 03 40 5f 52 5f 49 50 61ffff 49 50 41 50 42 50 43 50 44 50 45 50 46 50 48 50 4a 50 3a 50 5f 35 50 36 50 34 50 6020 5f f3")
	l := list(rich, at(b, 5, with(nest(maker()), makes(0, 1, 1), drop, calls(c, 1), drop, upwards)), at(c, 0, coded(says)), at(call.Made(b, n(1)), 3, nil))
	switch i := g.IntN(len(l)); g.IntN(12) {
	case 0:
		return nil
	case 1:
		l[i].Address = api.Address(g.bytes(20))
	case 2:
		l[i].Code = g.bytes(g.IntN(40))
	case 3:
		l[i].Slots = []api.Slot{{Key: n(g.Uint64N(3)), Value: n(g.Uint64N(3))}, {Key: n(g.Uint64N(3)), Value: n(g.Uint64N(3))}}
	case 4:
		l[i].Balance = pick(g, n(0), word.Not(n(0)), word.Not(n(108)))
	case 5:
		l[i].Nonce = math.MaxUint64
	case 6:
		return l[:i]
	}
	return l
}

// R1, R2, R4: no call panics, whatever it is given; a Start and an error are never there at once; the same once more answers the same.
func TestAnyArguments(t *testing.T) {
	g := draw(151)
	taken, codes := 0, map[api.Errno]int{}
	for range 4000 {
		x := g.any()
		was := copyOf(x.l)
		s, err := exec.Begin(x.l, x.b, x.m, x.engine)
		got, behind, no := exec.Execute(x.l, x.b, x.m, x.engine)
		if !same(x.l, was) || (s == nil) != (err != nil) || (err == nil) != (no == nil) {
			t.Fatalf("%v, %v, %v", s, err, no)
		}
		if err != nil {
			first, second := err.(*exec.Refusal), no.(*exec.Refusal)
			if !alikeRefusals(*first, *second) || first == second || !alike(got, api.Result{}) || len(behind) != 0 {
				t.Fatalf("%+v, %+v", first, second)
			}
			codes[first.Code]++
			continue
		}
		taken++
		for {
			if _, more := s.Next(); !more {
				break
			}
			s.Go(pick(g, 0, 1, 5, -1, math.MinInt, math.MaxInt))
		}
		ended(t, "any", s, plain{result: got, accounts: behind})
	}
	for _, e := range []api.Errno{api.ErrArg, api.ErrOrder, api.ErrEmpty, api.ErrBare, api.ErrCode, api.ErrSum, api.ErrBlock, api.ErrFunds, api.ErrStill, api.ErrInit, api.ErrTaken} {
		if codes[e] == 0 {
			t.Errorf("never refused for %d", e)
		}
	}
	if taken < 400 {
		t.Errorf("only %d were taken", taken)
	}
	t.Log(taken, codes)
}
