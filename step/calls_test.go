package step_test

import (
	"bytes"
	"slices"
	"testing"

	"vouch/api"
)

// caller is one of the three instructions that call.
type caller struct {
	code byte
	kind int
}

var callers = []caller{{0xf8, api.AskCall}, {0xf9, api.AskDelegate}, {0xfb, api.AskStill}}

// called is a frame that calls an address, with a piece and a value (which only EXTCALL takes), and stops. The address 11 has code, 13 none but a balance, 12 is nobody.
func (c caller) called(to, at, size, value api.Word) *frame {
	words := []api.Word{to, at, size}
	if c.code == 0xf8 {
		words = append(words, value)
	}
	fill := slices.Concat(pushed(n(0), bytesWord(counted(1, 32))), raw("52"))
	return of(fill, pushed(words...), []byte{c.code, 0x00}).
		account(api.Account{Address: addr(11), Balance: n(1), Code: least(0)}).
		account(api.Account{Address: addr(13), Balance: n(1)})
}

// ahead is what is paid ahead of the call, but for the table's 100.
func (c caller) ahead() uint64 {
	if c.code == 0xf8 {
		return 6 + 6 + 12
	}
	return 6 + 6 + 9
}

// What a call asks for: the address, the value, the piece's bytes, and the gas that passes, which is gone.
func TestCallsAsk(t *testing.T) {
	for _, c := range callers {
		x := c.called(n(11), n(5), n(3), n(0)).gas(c.ahead() + 100 + 2500 + 320000)
		r, w := x.asksFor(t, api.Ask{Kind: c.kind, To: addr(11), Input: []byte{6, 7, 8}, Gas: 315000})
		if s := r.Sight(); s != (api.Sight{State: api.Asking, At: x.length(0) - 2, Memory: 32, Left: 5000}) {
			t.Errorf("%x: %+v", c.code, s)
		}
		if !isWarm(w, addr(11)) || isWarm(w, self) {
			t.Errorf("%x: warm %v, Self %v", c.code, isWarm(w, addr(11)), isWarm(w, self))
		}
	}
	// the address in all its 20 bytes
	wide := api.Address(counted(0xe0, 20))
	for _, c := range []caller{callers[0], callers[2]} {
		x := c.called(addressWord(wide), n(0), n(0), n(0)).gas(c.ahead() + 2600 + 640000)
		x.asksFor(t, api.Ask{Kind: c.kind, To: wide, Gas: 640000 - 10000})
	}
}

// What EXTCALL passes of a value: it is paid for, and once more where nobody is there.
func TestCallsWithAValue(t *testing.T) {
	c := callers[0]
	for _, x := range []struct {
		to, value uint64
		cost      uint64
	}{
		{11, 0, 2600}, {11, 1, 11600}, {11, 7, 11600}, {12, 0, 2600}, {12, 1, 36600}, {13, 1, 11600}, {10, 7, 11600},
	} {
		f := c.called(n(x.to), n(0), n(0), n(x.value)).gas(c.ahead() + x.cost + 7300)
		f.asksFor(t, api.Ask{Kind: api.AskCall, To: addr(byte(x.to)), Value: n(x.value), Gas: 2300})
		f.gas(c.ahead()+x.cost-1).endsSo(t, halted(api.HaltGas))
	}
	// a value of which only the highest bits are set is one
	for _, v := range []api.Word{power(64), power(255), top} {
		f := c.called(n(11), n(0), n(0), v).gas(c.ahead() + 11600 + 7300).balance(n(7))
		f.endsSo(t, api.Ending{Kind: api.EndStop, Left: 7300})
		f.accounts = []api.Account{{Address: self, Balance: v}}
		f.gas(c.ahead()+36600+7300).asksFor(t, api.Ask{Kind: api.AskCall, To: addr(11), Value: v, Gas: 2300})
	}
}

// What is warm costs nothing more.
func TestCallsOfWarmAddresses(t *testing.T) {
	for _, c := range callers {
		x := c.called(n(11), n(0), n(0), n(0)).gas(c.ahead() + 100 + 7300).warm(addr(11))
		x.asksFor(t, api.Ask{Kind: c.kind, To: addr(11), Gas: 2300})
	}
}

// answersOne: no frame is asked for: 1 is left, no gas passes, and what it costs is paid all the same; the address is warm.
func (c caller) answersOne(t *testing.T, x *frame, cost, left uint64) {
	t.Helper()
	behind := x.c.Codes[0]
	x.c.Codes[0] = slices.Concat(behind[:len(behind)-1], raw("3d"), dump(2))
	r, w := x.gas(c.ahead() + cost + left).begun(t)
	for r.Sight().At < len(behind)-1 && r.State() == api.Going {
		r.Go(1)
	}
	if s := r.Sight(); s.Left != left || s.Height != 1 || s.State != api.Going || !isWarm(w, addr(11)) && !isWarm(w, addr(13)) && !isWarm(w, addr(12)) {
		t.Errorf("%v: %+v", x, s)
		return
	}
	if left < 100 {
		return
	}
	r.Go(many)
	if got, _ := r.Ended(); got.Kind != api.EndRevert || !bytes.Equal(got.Output[32:], slices.Concat(zero(32), wordBytes(n(1)))) {
		t.Errorf("%v: %x, %+v", x, got.Output, got)
	}
}

// Each condition under which none is asked for, alone and just past its bound.
func TestCallsThatAskForNone(t *testing.T) {
	for _, c := range callers {
		for _, left := range []uint64{0, 2300, 4999, 5000, 7299} {
			c.answersOne(t, c.called(n(11), n(0), n(0), n(0)), 2600, left)
		}
		c.answersOne(t, c.called(n(11), n(0), n(0), n(0)).depth(api.MaxDepth-1), 2600, 100000)
		x := c.called(n(11), n(0), n(0), n(0)).depth(api.MaxDepth - 2).gas(c.ahead() + 2600 + 7300)
		x.asksFor(t, api.Ask{Kind: c.kind, To: addr(11), Gas: 2300})
		c.answersOne(t, c.called(n(11), n(0), n(0), n(0)).depth(api.MaxDepth-1).still(), 2600, 100000)
	}
	call, delegate, still := callers[0], callers[1], callers[2]
	call.answersOne(t, call.called(n(11), n(0), n(0), n(8)), 11600, 100000)
	call.answersOne(t, call.called(n(12), n(0), n(0), n(8)), 36600, 100000)
	call.answersOne(t, call.called(n(11), n(0), n(0), top), 11600, 100000)
	call.answersOne(t, call.called(n(11), n(0), n(0), n(1)).balance(n(1)).turn(func(x *frame) { x.accounts[0] = api.Account{Address: self, Nonce: 1} }), 11600, 100000)
	delegate.answersOne(t, delegate.called(n(12), n(0), n(0), n(0)), 2600, 100000)
	delegate.answersOne(t, delegate.called(n(13), n(0), n(0), n(0)), 2600, 100000)
	for _, to := range []uint64{12, 13} {
		for _, c := range []caller{call, still} {
			c.called(n(to), n(0), n(0), n(0)).gas(c.ahead()+2600+7300).asksFor(t, api.Ask{Kind: c.kind, To: addr(byte(to)), Gas: 2300})
		}
	}
}

// Where none is asked for the return data of an earlier call are gone; where a call halts ahead of that nothing is told of them any more.
func TestReturnDataAreNoneBehindACall(t *testing.T) {
	ask := slices.Concat(pushed(numbers(10, 0, 0, 0)...), raw("f8 50"))
	for _, second := range [][]byte{
		slices.Concat(pushed(numbers(10, 0, 0, 8)...), raw("f8")),
		slices.Concat(pushed(numbers(12, 0, 0)...), raw("f9")),
		slices.Concat(pushed(numbers(9, 0, 0, 0)...), raw("ec00")), // a value of 9
	} {
		x := of(ask, raw("3d"), second, raw("3d"), dump(3)).gas(200000).subs(least(0xfe))
		r, _ := x.begun(t)
		r.Go(many)
		asked, _ := r.Asked()
		r.Give(api.Reply{Output: zero(5), Left: asked.Gas})
		r.Go(many)
		got, _ := r.Ended()
		if len(got.Output) != 96 || got.Output[95] != 5 || !bytes.Equal(got.Output[:32], zero(32)) {
			t.Errorf("%x: %+v", second, got)
		}
	}
}

// While a frame that is asked for is not answered the return data are none; they are the answer's Output behind it, whatever the Status.
func TestCallsAnswered(t *testing.T) {
	for _, c := range callers {
		for status := range 3 {
			for _, back := range []uint64{0, 1, 2299, 2300} {
				x := c.called(n(11), n(0), n(0), n(0)).gas(c.ahead() + 2600 + 7300)
				x.c.Codes[0] = slices.Concat(x.c.Codes[0][:x.length(0)-1], raw("3d 5f f7"), dump(3))
				r, _ := x.begun(t)
				r.Go(many)
				at := r.Sight().At
				out := counted(0xa1, 33)
				if wrong := r.Give(api.Reply{Status: status, Output: out, Left: back, Address: addr(99)}); wrong != api.OK {
					t.Fatalf("%v", wrong)
				}
				if s := r.Sight(); s != (api.Sight{At: at + 1, Height: 1, Memory: 32, Left: 5000 + back}) || r.State() != api.Going {
					t.Errorf("%x, status %d: %+v", c.code, status, s)
				}
				r.Go(many)
				got, _ := r.Ended()
				want := slices.Concat(counted(1, 32), counted(0xa1, 32), wordBytes(n(33)), wordBytes(n(uint64(status))))
				if !bytes.Equal(got.Output, want) {
					t.Errorf("%x, status %d: %x", c.code, status, got.Output)
				}
			}
		}
	}
}

// A word that is no address: HaltAddress, whatever is above it.
func TestCallsOfNoAddress(t *testing.T) {
	for _, c := range callers {
		for _, to := range []api.Word{power(160), top, {11, 0, 0, 1}, {11, 0, 1 << 63}, power(255)} {
			c.called(to, n(0), n(0), n(0)).gas(100000).endsSo(t, halted(api.HaltAddress))
		}
		last := addressWord(api.Address(bytes.Repeat([]byte{255}, 20)))
		if c.kind != api.AskDelegate {
			x := c.called(last, n(0), n(0), n(0)).gas(c.ahead() + 2600 + 7300)
			x.asksFor(t, api.Ask{Kind: c.kind, To: api.Address(bytes.Repeat([]byte{255}, 20)), Gas: 2300})
		}
	}
}

// In a still frame EXTCALL with a value halts; all else is asked as ever.
func TestCallsInAStillFrame(t *testing.T) {
	for _, c := range callers {
		x := c.called(n(11), n(0), n(0), n(0)).gas(c.ahead() + 2600 + 7300).still()
		x.asksFor(t, api.Ask{Kind: c.kind, To: addr(11), Gas: 2300})
	}
	for _, v := range []api.Word{n(1), n(8), power(64), power(255)} {
		w := callers[0].called(n(11), n(0), n(0), v).gas(100000).still().endsSo(t, halted(api.HaltStill))
		if isWarm(w, addr(11)) {
			t.Errorf("a value of %x in a still frame has warmed the address", v)
		}
	}
}

// The piece of a call is paid for and taken, as memory is then; what is written later does not turn it.
func TestCallsTakeAPiece(t *testing.T) {
	for _, c := range callers {
		x := c.called(n(11), n(30), n(4), n(0)).gas(c.ahead() + 2600 + 3 + 7300)
		r, _ := x.asksFor(t, api.Ask{Kind: c.kind, To: addr(11), Input: []byte{31, 32, 0, 0}, Gas: 2300})
		if s := r.Sight(); s.Memory != 64 {
			t.Errorf("%x: %+v", c.code, s)
		}
	}
}

// With more gas more passes: all but a 64th, and at least 5000.
func TestWhatPasses(t *testing.T) {
	for _, c := range callers {
		for _, x := range [][2]uint64{{7300, 2300}, {7301, 2301}, {320000, 315000}, {320063, 315063}, {320064, 315063}, {640000, 630000}, {1 << 31, 1<<31 - 1<<25}} {
			f := c.called(n(11), n(0), n(0), n(0)).gas(c.ahead() + 2600 + x[0])
			r, _ := f.asksFor(t, api.Ask{Kind: c.kind, To: addr(11), Gas: x[1]})
			if s := r.Sight(); s.Left != x[0]-x[1] {
				t.Errorf("%x of %d: %d left", c.code, x[0], s.Left)
			}
		}
	}
}
