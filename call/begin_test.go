package call_test

import (
	"bytes"
	"slices"
	"testing"

	"vouch/api"
	"vouch/call"
	"vouch/word"
	"vouch/world"
)

// tells is code that lays what a frame knows of itself into memory, ten words.
var tells = join(
	raw("30 5f 52"), raw("33 6020 52"), raw("34 6040 52"), raw("32 6060 52"), // Self, Caller, Value, Origin
	raw("3a 6080 52"), raw("36 60a0 52"), raw("5f 35 60c0 52"), // Price, the length of Input, its first word
	raw("41 60e0 52"), raw("6001 43 03 40 610100 52"), raw("5f 49 610120 52"), // Coinbase, the last block's hash, the first blob's
)

// told10 is what a frame has told so.
type told10 struct {
	self, caller, value, origin, price, size, input, coinbase, hash, blob api.Word
}

func readTold(t testing.TB, l []byte) told10 {
	t.Helper()
	if len(l) != 320 {
		t.Fatalf("%d bytes: %x", len(l), l)
	}
	at := func(i int) api.Word {
		x, _ := word.FromBytes(l[32*i : 32*i+32])
		return x
	}
	return told10{at(0), at(1), at(2), at(3), at(4), at(5), at(6), at(7), at(8), at(9)}
}

// The frame's words that all frames of a message have alike.
func (x told10) of(m api.Message, b api.Block) told10 {
	x.origin, x.price = wordOf(m.From), m.Price
	x.coinbase = wordOf(b.Coinbase)
	x.hash, _ = word.FromBytes(b.Hashes[0][:])
	x.blob, _ = word.FromBytes(m.Blobs[0][:])
	return x
}

// full is a block and a message in which all is set.
func full(m api.Message) (api.Block, api.Message) {
	m.Price = n(0x9a5)
	m.Blobs = []api.Hash{{0: 0xb1}, {0: 0xb2}}
	return api.Block{Number: 7, Coinbase: addr(0xcb), Hashes: []api.Hash{{31: 0x41}, {31: 0x42}}}, m
}

// ends lets a run go to its end, and gathers what each first step of a frame is.
func ends(t testing.TB, w *world.World, b api.Block, m api.Message, engine int) (api.Result, []api.Seen) {
	t.Helper()
	r, wrong := call.New(w, b, m, engine)
	if wrong != api.OK {
		t.Fatalf("New: %v", wrong)
	}
	var first []api.Seen
	depth := -1
	for {
		s, more := r.Next()
		if !more {
			break
		}
		if s.Depth > depth {
			first = append(first, s)
		}
		depth = s.Depth
		r.Go(1)
	}
	x, _ := r.Ended()
	return x, first
}

// returnsAll returns what tells has laid down; revertsAll takes back with it.
var returnsAll, revertsAll = raw("610140 5f f3"), raw("610140 5f fd")

// asksWith is code that calls with two bytes as Input, the first one 0x1d, and returns what was returned.
func asksWith(code byte, to api.Address, value ...api.Word) []byte {
	return join(raw("601d 5f 53"), pushed(append([]api.Word{wordOf(to), n(0), n(2)}, value...)...), []byte{code, 0x50}, upwards)
}

// 14.4: what a frame tells of itself, of each row of the table.
func TestFramesAsTheTableSays(t *testing.T) {
	input := n(0)
	input[3] = 0x1d << 56 // the first byte of a word of two bytes
	small := word.FromUint
	teller := coded(tells, returnsAll)
	start := coded(tells, revertsAll) // it makes nothing, and tells
	for _, engine := range engines {
		for _, row := range []struct {
			name string
			code []byte // B's
			m    api.Message
			want told10
			self []api.Address // of the frames, from the first on
		}{
			{"the message", teller, valued(3, 90000), told10{self: wordOf(b), caller: wordOf(a), value: small(3)}, []api.Address{b}},
			{"AskCall", coded(asksWith(0xf8, c, n(2))), valued(3, 90000), told10{self: wordOf(c), caller: wordOf(b), value: small(2), size: small(2), input: input}, []api.Address{b, c}},
			{"AskCall, no value", coded(asksWith(0xf8, c, n(0))), valued(3, 90000), told10{self: wordOf(c), caller: wordOf(b), size: small(2), input: input}, []api.Address{b, c}},
			{"AskDelegate", coded(asksWith(0xf9, c)), valued(3, 90000), told10{self: wordOf(b), caller: wordOf(a), value: small(3), size: small(2), input: input}, []api.Address{b, b}},
			{"AskStill", coded(asksWith(0xfb, c)), valued(3, 90000), told10{self: wordOf(c), caller: wordOf(b), size: small(2), input: input}, []api.Address{b, c}},
			{"AskMake", with(nest(start), raw("601d 5f 53"), pushed(n(2), n(1), n(0), n(2)), raw("ec00 50"), upwards), valued(3, 90000), told10{self: wordOf(call.Made(b, n(1))), caller: wordOf(b), value: small(2), size: small(2), input: input}, []api.Address{b, call.Made(b, n(1))}},
			{"a message that makes", nil, api.Message{From: a, To: c, Value: n(3), Gas: 90000, Make: true, Init: start, Salt: n(2)}, told10{self: wordOf(call.Made(a, n(2))), caller: wordOf(a), value: small(3)}, []api.Address{call.Made(a, n(2))}},
			// two above one another: what is the asker's Self, Caller and Value is that of the frame that asks
			{"AskDelegate in AskCall", coded(asksWith(0xf8, d, n(2))), valued(3, 90000), told10{self: wordOf(d), caller: wordOf(b), value: small(2), size: small(2), input: input}, []api.Address{b, d, d}},
			{"AskDelegate in AskStill", coded(asksWith(0xfb, d)), valued(3, 90000), told10{self: wordOf(d), caller: wordOf(b), size: small(2), input: input}, []api.Address{b, d, d}},
			{"AskDelegate in AskDelegate", coded(asksWith(0xf9, d)), valued(3, 90000), told10{self: wordOf(b), caller: wordOf(a), value: small(3), size: small(2), input: input}, []api.Address{b, b, b}},
		} {
			x, block := row.m, api.Block{}
			block, x = full(x)
			l := []api.Account{rich, at(c, 0, teller), at(d, 0, coded(asksWith(0xf9, c)))}
			if row.code != nil {
				l = append(l, at(b, 0, row.code))
			}
			got, first := ends(t, made(t, l...), block, x, engine)
			if said := readTold(t, got.Output); said != row.want.of(x, block) {
				t.Errorf("%s by %d: %+v, not %+v", row.name, engine, said, row.want.of(x, block))
			}
			if len(first) != len(row.self) {
				t.Fatalf("%s by %d: %+v", row.name, engine, first)
			}
			for i, s := range first {
				if s.Self != row.self[i] || s.Depth != i || s.Section != 0 || s.At != 0 || s.Height != 0 {
					t.Errorf("%s by %d: frame %d is %+v", row.name, engine, i, s)
				}
			}
		}
	}
}

// 14.4: the message's Input is the first frame's, to make an account too; the Gas is all that was given, and what was asked with.
func TestInputAndGas(t *testing.T) {
	echo := raw("36 5f 5f 37 36 5f")
	for _, engine := range engines {
		m := from(5000)
		m.Input = []byte{7, 8, 9}
		got, first := ends(t, made(t, rich, at(b, 0, coded(echo, raw("f3")))), api.Block{}, m, engine)
		if !bytes.Equal(got.Output, m.Input) || first[0].Left != 5000 {
			t.Errorf("%+v, %+v", got, first)
		}
		m = making(coded(echo, raw("fd")), 5000)
		m.Input = []byte{7, 8, 9}
		got, first = ends(t, made(t, rich), api.Block{}, m, engine)
		if !bytes.Equal(got.Output, m.Input) || first[0].Left != 5000 {
			t.Errorf("%+v, %+v", got, first)
		}
		// 10 ahead of EXTCALL, 100 for it, 2500 for C; a 64th and 5000: the greater one stays
		_, first = ends(t, made(t, rich, at(b, 0, coded(calls(c, 0), drop, stop)), at(c, 0, coded(stop))), api.Block{}, from(1000000), engine)
		if len(first) != 2 || first[1].Left != 1000000-2609-(1000000-2609)/64 {
			t.Errorf("%+v", first)
		}
		// 9 ahead of EOFCREATE, 32000 for it, and 6 for each word of what it is made with
		start := maker()
		_, first = ends(t, made(t, rich, at(b, 0, with(nest(start), makes(0, 0, 1), drop, stop))), api.Block{}, from(1000000), engine)
		left := 1000000 - 9 - 32000 - 6*uint64((len(start)+31)/32)
		if len(first) != 2 || first[1].Left != left-left/64 {
			t.Errorf("%+v, not %d", first, left-left/64)
		}
	}
}

// 14.3: what is warm when the message begins: From, To or what is made, and the block's Coinbase; no slot, and nothing that an earlier message has touched.
func TestWarmAtFirst(t *testing.T) {
	for _, engine := range engines {
		for _, makes := range []bool{false, true} {
			w := made(t, rich, at(b, 0, coded(stop)), at(c, 0, coded(stop)))
			w.Begin(d)
			w.Warm(e)
			w.WarmSlot(b, n(1))
			w.TSet(b, n(1), n(2))
			w.Tell(api.Log{})
			w.Owe(5)
			w.Set(b, n(2), n(9))
			block := api.Block{Coinbase: addr(0xcb)}
			m := from(50000)
			m.Make, m.Init, m.Salt = makes, maker(), n(1)
			if _, wrong := call.New(w, block, m, engine); wrong != api.OK {
				t.Fatal(wrong)
			}
			want := []api.Address{a, b, addr(0xcb)}
			if makes {
				want[1] = call.Made(a, n(1))
			}
			for _, x := range known {
				if warm(w, x) != slices.Contains(want, x) {
					t.Errorf("%v: warm %x: %v", makes, x, warm(w, x))
				}
			}
			if w.TGet(b, n(1)) != n(0) || len(w.Logs()) != 0 || w.Owed() != 0 || w.Original(b, n(2)) != n(9) || w.WarmSlot(b, n(1)) {
				t.Errorf("%v: something of the last message is left", makes)
			}
		}
	}
}

// 14.3: warm is what it is to the frames: what BALANCE costs of each.
func TestWarmToFrames(t *testing.T) {
	for _, engine := range engines {
		for _, row := range []struct {
			of   api.Address
			cost uint64
		}{{a, 100}, {b, 100}, {addr(0xcb), 100}, {c, 2600}, {api.Address{}, 2600}} {
			w := made(t, rich, at(b, 0, coded(warms(row.of), stop)))
			r, _ := call.New(w, api.Block{Coinbase: addr(0xcb)}, from(5000), engine)
			r.Go(many)
			push := uint64(3)
			if row.of == (api.Address{}) {
				push = 2
			}
			if x, _ := r.Ended(); x.Left != 5000-push-2-row.cost {
				t.Errorf("%x: %+v", row.of, x)
			}
		}
		// what is made is warm to the frame that makes it
		m := making(maker(raw("30 31 50")), 50000)
		got := through(t, made(t, rich), m, engine)
		if want := uint64(50000 - 2 - 100 - 2 - 4 - 200*20); got.Left != want {
			t.Errorf("%+v, not %d", got, want)
		}
	}
}

// 14.4: what a frame finds at its first step: its value has moved, what is made has the nonce 1, From's is one more, and no code stands there.
func TestWorldAtTheFirstStep(t *testing.T) {
	for _, engine := range engines {
		w := made(t, rich, at(b, 1, coded(stop)))
		begun(t, w, valued(3, 50), engine)
		if w.Balance(a) != n(97) || w.Balance(b) != n(4) || w.Nonce(a) != 0 || w.Nonce(b) != 0 {
			t.Error("a message")
		}
		at1 := call.Made(a, n(1))
		w = made(t, rich, api.Account{Address: at1, Balance: n(5)})
		m := making(maker(), 50000)
		m.Value, m.Salt = n(3), n(1)
		r := begun(t, w, m, engine)
		if _, has := w.Code(at1); has || w.Balance(a) != n(97) || w.Balance(at1) != n(8) || w.Nonce(a) != 1 || w.Nonce(at1) != 1 {
			t.Error("a message that makes an account")
		}
		r.Go(many)
		if code, has := w.Code(at1); !has || !bytes.Equal(code.Bytes(), coded(stop)) || w.Nonce(a) != 1 || w.Nonce(at1) != 1 || w.Balance(at1) != n(8) {
			t.Error("behind it")
		}
	}
}

// atDepth lets a run go till a frame of this depth is the topmost one.
func atDepth(t testing.TB, r *call.Run, depth int) {
	t.Helper()
	for {
		s, more := r.Next()
		if !more {
			t.Fatalf("no frame of depth %d", depth)
		}
		if s.Depth == depth {
			return
		}
		r.Go(1)
	}
}

// 14.4: which values move, from whom to whom: those of AskCall and AskMake; those of AskDelegate and AskStill do not.
func TestValuesThatMove(t *testing.T) {
	for _, engine := range engines {
		for _, row := range []struct {
			name    string
			asks    []byte
			b, c, x uint64 // behind the move; x is what is made
		}{
			{"AskCall", calls(c, 4), 9, 5, 0},
			{"AskCall of nothing", calls(c, 0), 13, 1, 0},
			{"AskCall of all", calls(c, 13), 0, 14, 0},
			{"AskDelegate", lends(c), 13, 1, 0},
			{"AskStill", stills(c), 13, 1, 0},
			{"AskMake", makes(0, 4, 1), 9, 1, 4},
			{"AskMake of all", makes(0, 13, 1), 0, 1, 13},
		} {
			// whoever is asked calls on, so that its own value would be seen to move too
			code := with(nest(maker()), row.asks, drop, makes(0, 0, 2), drop, stop)
			w := made(t, rich, at(b, 10, code), at(c, 1, coded(lends(d), drop, stop)), at(d, 0, coded(stop)))
			r := begun(t, w, valued(3, 200000), engine)
			atDepth(t, r, 1)
			x := call.Made(b, n(1))
			if w.Balance(a) != n(97) || w.Balance(b) != n(row.b) || w.Balance(c) != n(row.c) || w.Balance(x) != n(row.x) {
				t.Errorf("%s by %d: %v %v %v", row.name, engine, w.Balance(b), w.Balance(c), w.Balance(x))
			}
			r.Go(many)
			if got, _ := r.Ended(); got.Status != api.Done || w.Balance(b) != n(row.b) || w.Balance(c) != n(row.c) || w.Balance(x) != n(row.x) || w.Balance(d) != n(0) {
				t.Errorf("%s by %d: %+v", row.name, engine, got)
			}
		}
		// to itself: it has what it had
		w := made(t, rich, at(b, 10, coded(join(raw("36 e1 0009"), pushed(wordOf(b), n(0), n(1), n(4)), raw("f8 50"), stop))))
		got := through(t, w, from(100000), engine)
		if got.Status != api.Done || w.Balance(b) != n(10) {
			t.Errorf("%+v %v", got, w.Balance(b))
		}
		// as much as there is, and one more
		for v, want := range map[uint64]uint64{10: api.Went, 11: api.TookBack} {
			w := made(t, rich, at(b, 10, coded(calls(c, v), answers)), at(c, 0, coded(stop)))
			got := through(t, w, from(100000), engine)
			if got.Status != api.Done || uint64(got.Output[31]) != want {
				t.Errorf("%d: %+v", v, got)
			}
		}
	}
}

// 14.4: who is still: in a still message all frames are; in one that is not those that AskStill leads to, and what is asked for from there by calls of any kind.
func TestStillFrames(t *testing.T) {
	const failed, went = api.Failed, api.Went
	for _, engine := range engines {
		for _, row := range []struct {
			name  string
			still bool
			asks  []byte // B's
			on    []byte // C's
			want  byte   // how the frame of D went that changes things
		}{
			{"AskCall", false, calls(c, 0), calls(d, 0), went},
			{"AskDelegate", false, lends(c), lends(d), went},
			{"AskStill", false, calls(c, 0), stills(d), failed},
			{"AskCall in AskStill", false, stills(c), calls(d, 0), failed},
			{"AskDelegate in AskStill", false, stills(c), lends(d), failed},
			{"AskStill in AskStill", false, stills(c), stills(d), failed},
			{"AskCall in a still message", true, calls(c, 0), calls(d, 0), failed},
			{"AskDelegate in a still message", true, lends(c), lends(d), failed},
			{"AskStill in a still message", true, stills(c), stills(d), failed},
		} {
			w := made(t, rich, at(b, 0, coded(row.asks, drop, upwards)), at(c, 0, coded(row.on, answers)), at(d, 0, coded(tellsAll)))
			m := from(200000)
			m.Still = row.still
			got := through(t, w, m, engine)
			if got.Status != api.Done || len(got.Output) != 32 || got.Output[31] != row.want {
				t.Errorf("%s by %d: %+v", row.name, engine, got)
			}
		}
		// behind a frame that is still another one is not
		w := made(t, rich, at(b, 0, coded(stills(d), drop, calls(d, 0), answers)), at(d, 0, coded(tellsAll)))
		if got := through(t, w, from(3000000), engine); got.Status != api.Done || got.Output[31] != went {
			t.Errorf("behind AskStill: %+v", got)
		}
		// what makes an account is not still
		w = made(t, rich, at(b, 0, with(nest(maker(tell(1), tstore(1, 1))), makes(0, 0, 1), answers)))
		if got := through(t, w, from(200000), engine); got.Status != api.Done || !bytes.Equal(got.Output[12:], made20(b, 1)) || len(got.Logs) != 1 {
			t.Errorf("%+v", got)
		}
		// the message itself
		for _, still := range []bool{false, true} {
			w := made(t, rich, at(b, 0, coded(tellsAll)))
			m := from(200000)
			m.Still = still
			want := api.Done
			if still {
				want = api.Halted
			}
			if got := through(t, w, m, engine); got.Status != want {
				t.Errorf("still %v: %+v", still, got)
			}
		}
	}
}

// made20 is the bytes of what an address makes with a salt.
func made20(by api.Address, salt uint64) []byte {
	x := call.Made(by, n(salt))
	return x[:]
}

// 14.4: frames as deep as the gas leads, each with what chapter 10's Pass leaves of it: B calls itself.
func TestDeepFrames(t *testing.T) {
	for _, engine := range engines {
		w := made(t, rich, at(b, 0, coded(calls(b, 0), drop, stop)))
		got, first := ends(t, w, api.Block{}, from(api.MaxGas), engine)
		left, depth := uint64(api.MaxGas), 0
		for {
			if depth >= len(first) || first[depth] != (api.Seen{Depth: depth, Self: b, Code: 0x5f, Left: left}) {
				t.Fatalf("depth %d of %d, with %d", depth, len(first), left)
			}
			if left < 109 {
				break
			}
			stays := max((left-109)/64, 5000)
			if left < 109+stays+2300 {
				break
			}
			left -= 109 + stays
			depth++
		}
		if len(first) != depth+1 || depth < 600 || got.Status != api.Done || got.Steps != uint64(7*(depth+1)) || got.Left != api.MaxGas-111*uint64(depth+1) {
			t.Errorf("by %d: %d frames, not %d: %+v", engine, len(first), depth+1, got)
		}
		if w.Mark() != 0 {
			t.Error("marks are left")
		}
	}
}
