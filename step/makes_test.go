package step_test

import (
	"bytes"
	"slices"
	"testing"

	"vouch/api"
)

// making is a frame that makes an account with the nested container of that number, behind it dump's code, with so much gas for EOFCREATE.
func making(sub byte, value, salt, at, size api.Word, gas uint64) *frame {
	fill := slices.Concat(pushed(n(0), bytesWord(counted(1, 32))), raw("52"))
	x := of(fill, pushed(value, salt, at, size), []byte{0xec, sub}, raw("3d"), dump(2)).gas(12 + 12 + gas)
	return x.subs(least(0xfe), sized(0x00, 3, 2), least(0x00), sized(0xfe, 20, 20), sized(0xfe, 100, 100))
}

// EOFCREATE asks with the value, the salt, the number of the nested container, the piece's bytes and all but a 64th of the gas, which is gone.
func TestMakesAsk(t *testing.T) {
	for _, x := range []struct {
		sub    byte
		hashed uint64 // words of 32 bytes of the nested container
	}{{0, 1}, {2, 1}, {3, 2}, {4, 4}} {
		f := making(x.sub, n(2), top, n(5), n(3), 32000+6*x.hashed+6400)
		r, w := f.asksFor(t, api.Ask{Kind: api.AskMake, Value: n(2), Salt: top, Sub: int(x.sub), Input: []byte{6, 7, 8}, Gas: 6300})
		if s := r.Sight(); s != (api.Sight{State: api.Asking, At: 33*6 + 1, Memory: 32, Left: 100}) {
			t.Errorf("%d: %+v", x.sub, s)
		}
		if isWarm(w, self) || w.Nonce(self) != 0 {
			t.Errorf("%d: Self is warm, or its nonce %d", x.sub, w.Nonce(self))
		}
		making(x.sub, n(2), top, n(5), n(3), 32000+6*x.hashed-1).endsSo(t, halted(api.HaltGas))
	}
	for _, left := range [][2]uint64{{0, 0}, {1, 1}, {63, 63}, {64, 63}, {127, 126}, {128, 126}, {1 << 20, 1<<20 - 1<<14}} {
		f := making(0, n(0), n(0), n(0), n(0), 32006+left[0])
		f.asksFor(t, api.Ask{Kind: api.AskMake, Gas: left[1]})
	}
	// the piece beyond what memory has is paid for
	making(0, n(0), n(0), n(30), n(4), 32006+3+64).asksFor(t, api.Ask{Kind: api.AskMake, Input: []byte{31, 32, 0, 0}, Gas: 63})
	// the last number there may be
	f := making(255, n(0), n(0), n(0), n(0), 32006)
	f.c.Subs = slices.Repeat([][]byte{{1}}, 256)
	f.c.Subs[255] = least(0xfe)
	f.asksFor(t, api.Ask{Kind: api.AskMake, Sub: 255})
}

// A nested container to make an account with need not be valid: it need only parse, as a whole one.
func TestMakesOfWhatParses(t *testing.T) {
	x := making(0, n(0), n(0), n(0), n(0), 32006)
	x.c.Subs[0] = least(0x0c)
	x.asksFor(t, api.Ask{Kind: api.AskMake})
}

// FaultSub: no nested container of that number, one that is none, one that is open.
func TestMakesFault(t *testing.T) {
	for _, sub := range []byte{1, 5, 6, 255} {
		making(sub, n(0), n(0), n(0), n(0), 100000).endsSo(t, faulted(api.FaultSub))
	}
	for _, b := range [][]byte{{0}, least(0xfe)[:19], append(least(0xfe), 0), raw("ef0001 010004 0200010001 ff000000 01800000 fe")} {
		x := making(0, n(0), n(0), n(0), n(0), 100000)
		x.c.Subs[0] = b
		x.endsSo(t, faulted(api.FaultSub))
	}
	x := making(0, n(0), n(0), n(0), n(0), 100000)
	x.c.Subs = nil
	x.endsSo(t, faulted(api.FaultSub))
}

// leavesZero: none is asked for: 0 is left, and what it costs is paid all the same.
func leavesZero(t *testing.T, x *frame, gas uint64) {
	t.Helper()
	r, w := x.begun(t)
	before := seen(w)
	r.Go(8)
	if s := r.Sight(); s.State != api.Going || s.Height != 1 || s.Left != gas {
		t.Errorf("%v: %+v", x, s)
	}
	r.Go(many)
	if got, _ := r.Ended(); got.Kind != api.EndRevert || !bytes.Equal(got.Output[32:], zero(64)) {
		t.Errorf("%v: %+v", x, got)
	}
	if after := seen(w); after != before {
		t.Errorf("%v: the world has changed", x)
	}
}

// Each condition under which none is asked for, alone, and at its bound.
func TestMakesThatAskForNone(t *testing.T) {
	base := func(value api.Word) *frame { return making(0, value, n(5), n(0), n(1), 32006+1000) }
	ask := api.Ask{Kind: api.AskMake, Salt: n(5), Input: []byte{1}, Gas: 1000 - 15}
	leavesZero(t, base(n(0)).depth(api.MaxDepth-1), 1000)
	base(n(0)).depth(api.MaxDepth-2).asksFor(t, ask)
	leavesZero(t, base(n(8)), 1000)
	leavesZero(t, base(top), 1000)
	leavesZero(t, base(power(64)), 1000)
	ask.Value = n(7)
	base(n(7)).asksFor(t, ask)
	ask.Value = n(0)
	nonce := func(x uint64) *frame {
		return base(n(0)).turn(func(f *frame) { f.accounts[0].Nonce = x })
	}
	leavesZero(t, nonce(1<<64-1), 1000)
	nonce(1<<64-2).asksFor(t, ask)
}

// HaltStill in a still frame, whatever it is to make.
func TestMakesInAStillFrame(t *testing.T) {
	making(0, n(0), n(0), n(0), n(0), 100000).still().endsSo(t, halted(api.HaltStill))
	making(0, n(8), n(0), n(0), n(0), 100000).still().endsSo(t, halted(api.HaltStill))
	making(9, n(0), n(0), n(0), n(0), 100000).still().endsSo(t, halted(api.HaltStill))
	making(0, n(0), n(0), n(0), n(0), 100000).still().depth(api.MaxDepth-1).endsSo(t, halted(api.HaltStill))
}

// Answered: the gas that is left; the address of what Went; the Output of what TookBack, and of nothing else.
func TestMakesAnswered(t *testing.T) {
	wide := api.Address(counted(0xe0, 20))
	for status := range 3 {
		for _, back := range []uint64{0, 1, 6299, 6300} {
			r, _ := making(0, n(2), n(5), n(0), n(0), 32006+6400).begun(t)
			r.Go(many)
			if wrong := r.Give(api.Reply{Status: status, Output: counted(1, 33), Left: back, Address: wide}); wrong != api.OK {
				t.Fatal(wrong)
			}
			if s := r.Sight(); s != (api.Sight{At: 33*6 + 1 + 2, Height: 1, Memory: 32, Left: 100 + back}) {
				t.Errorf("status %d: %+v", status, s)
			}
			r.Go(many)
			got, _ := r.Ended()
			size, made := n(0), n(0)
			switch status {
			case api.Went:
				made = addressWord(wide)
			case api.TookBack:
				size = n(33)
			}
			if want := slices.Concat(counted(1, 32), wordBytes(size), wordBytes(made)); !bytes.Equal(got.Output, want) {
				t.Errorf("status %d: %x", status, got.Output)
			}
		}
	}
}

// The return data of an earlier call are gone behind an account that was made, and are the Output of one that took back.
func TestMakesAndReturnData(t *testing.T) {
	call := slices.Concat(pushed(numbers(10, 0, 0, 0)...), raw("f8 50"))
	create := slices.Concat(pushed(numbers(0, 0, 0, 0)...), raw("ec00 50"))
	for status, size := range []byte{0, 2, 0} {
		x := of(call, create, raw("3d"), dump(1)).gas(200000).subs(least(0xfe))
		r, _ := x.begun(t)
		r.Go(many)
		asked, _ := r.Asked()
		r.Give(api.Reply{Output: zero(9), Left: asked.Gas})
		r.Go(many)
		r.Give(api.Reply{Status: status, Output: zero(2), Address: addr(5)})
		r.Go(many)
		if got, _ := r.Ended(); !bytes.Equal(got.Output, wordBytes(n(uint64(size)))) {
			t.Errorf("status %d: %+v", status, got)
		}
	}
}

// deploying is a frame of an Init container that deploys the nested container 0 with a piece.
func deploying(sub []byte, at, size api.Word) *frame {
	fill := slices.Concat(pushed(n(0), bytesWord(counted(1, 32))), raw("52"))
	return of(fill, pushed(at, size), raw("ee00")).init().subs(sub).gas(100000000)
}

// deployed is how that ends well: the nested container's bytes, data declared so long, with these behind.
func deployed(sub []byte, size int, behind []byte, left uint64) api.Ending {
	out := slices.Concat(sub, behind)
	out[12], out[13] = byte(size>>8), byte(size)
	return api.Ending{Kind: api.EndDeploy, Output: out, Behind: behind, Left: left}
}

// RETURNCODE: what is deployed, of data that are there, missing, or more than was declared; what it costs.
func TestDeploys(t *testing.T) {
	for _, x := range []struct {
		sub      []byte
		at, size uint64
		declared int
		behind   []byte
		memory   uint64
	}{
		{least(0x00), 0, 0, 0, nil, 0},
		{least(0x00), 5, 3, 3, []byte{6, 7, 8}, 0},
		{sized(0x00, 3, 3), 0, 0, 3, nil, 0},
		{sized(0x00, 3, 3), 30, 4, 7, []byte{31, 32, 0, 0}, 3},
		{sized(0x00, 3, 1), 0, 2, 3, []byte{1, 2}, 0},
		{sized(0x00, 3, 0), 0, 3, 3, []byte{1, 2, 3}, 0},
		{sized(0x00, 3, 2), 0, 2, 4, []byte{1, 2}, 0},
		{least(0x0c), 0, 0, 0, nil, 0}, // what is not valid is deployed here too
	} {
		f := deploying(x.sub, n(x.at), n(x.size))
		cost := 12 + 6 + x.memory + 200*uint64(len(x.sub)+len(x.behind))
		f.ends(t, 6, 33*4+1, deployed(x.sub, x.declared, x.behind, 100000000-cost))
		f.gas(cost).endsSo(t, deployed(x.sub, x.declared, x.behind, 0))
		f.gas(cost-1).endsSo(t, halted(api.HaltGas))
	}
}

// RETURNCODE names one of several, by its number.
func TestDeploysByNumber(t *testing.T) {
	x := deploying(least(0x00), n(0), n(1))
	x.c.Subs = [][]byte{{1}, {2}, sized(0x00, 5, 4), {3}}
	x.c.Codes[0][x.length(0)-1] = 2
	want := deployed(x.c.Subs[2], 5, []byte{1}, 100000000-18-200*25)
	want.Sub = 2
	x.endsSo(t, want)
	x.c.Subs = slices.Repeat([][]byte{{1}}, 256)
	x.c.Subs[255] = least(0xfe)
	x.c.Codes[0][x.length(0)-1] = 255
	want = deployed(least(0xfe), 1, []byte{1}, 100000000-18-200*21)
	want.Sub = 255
	x.endsSo(t, want)
}

// HaltDeploy: data that are shorter than was declared, or longer than 65535; a container of more than MaxDeploy bytes; each at its bound and one past it.
func TestHaltDeploy(t *testing.T) {
	deploying(sized(0x00, 3, 2), n(0), n(0)).endsSo(t, halted(api.HaltDeploy))
	deploying(sized(0x00, 3, 0), n(0), n(2)).endsSo(t, halted(api.HaltDeploy))
	deploying(sized(0x00, 65535, 0), n(0), n(65534)).endsSo(t, halted(api.HaltDeploy))
	deploying(least(0x00), n(0), n(65536)).endsSo(t, halted(api.HaltDeploy))
	deploying(least(0x00), n(0), n(api.MaxMemory)).endsSo(t, halted(api.HaltDeploy))
	deploying(least(0x00), n(0), n(65535)).endsSo(t, halted(api.HaltDeploy))
	most := api.MaxDeploy - 20
	deploying(least(0x00), n(0), n(uint64(most+1))).endsSo(t, halted(api.HaltDeploy))
	r, _, _ := deploying(least(0x00), n(0), n(uint64(most))).gone(t)
	if got, _ := r.Ended(); got.Kind != api.EndDeploy || len(got.Output) != api.MaxDeploy || len(got.Behind) != most || got.Output[12] != byte(most>>8) || got.Output[13] != byte(most&255) {
		t.Errorf("%d, %d, %d bytes", got.Kind, len(got.Output), len(got.Behind))
	}
	deploying(sized(0x00, most+1, most+1), n(0), n(0)).endsSo(t, halted(api.HaltDeploy))
	r, _, _ = deploying(sized(0x00, most, most), n(0), n(0)).gone(t)
	if got, _ := r.Ended(); got.Kind != api.EndDeploy || len(got.Output) != api.MaxDeploy {
		t.Errorf("%d, %d bytes", got.Kind, len(got.Output))
	}
	// told ahead of what it would cost, and behind the piece
	deploying(least(0x00), n(0), n(uint64(most+1))).gas(18+2400+1500).endsSo(t, halted(api.HaltDeploy))
	deploying(least(0x00), n(0), n(uint64(most+1))).gas(1000).endsSo(t, halted(api.HaltGas))
}

// FaultSub at RETURNCODE: no nested container of that number, one that is none; an open one is one.
func TestDeploysFault(t *testing.T) {
	for _, b := range [][]byte{{0}, least(0x00)[:19], append(least(0x00), 0), sized(0x00, 2, 3)} {
		deploying(b, n(0), n(0)).endsSo(t, faulted(api.FaultSub))
	}
	for _, number := range []byte{1, 2, 255} {
		x := deploying(least(0x00), n(0), n(0))
		x.c.Codes[0][x.length(0)-1] = number
		x.endsSo(t, faulted(api.FaultSub))
	}
}

// A still frame deploys as any other: that is for whoever asked for it.
func TestDeploysInAStillFrame(t *testing.T) {
	deploying(least(0x00), n(0), n(0)).still().endsSo(t, deployed(least(0x00), 0, nil, 100000000-18-4000))
}
