package fast_test

import (
	"bytes"
	"slices"
	"testing"

	"vouch/api"
)

// noWhole are nested containers that chapter 5 does not parse as whole ones; noOpen those that it does not parse as open ones.
func noWhole() [][]byte { return append(noOpen(), sized(0xfe, 3, 2), sized(0xfe, 40, 0)) }

func noOpen() [][]byte {
	return [][]byte{
		{0}, {0xef}, least(0xfe)[:19], append(least(0xfe), 0), sized(0xfe, 2, 3),
		raw("ef0001 010004 0200010001 ff000000 01800000 fe"), bytes.Repeat([]byte{7}, 33), bytes.Repeat([]byte{7}, 64),
	}
}

// creating is a frame in which EOFCREATE names the nested container of that number; behind it the size of the return data is told, and what was left.
func creating(sub byte, value, salt, at, size api.Word, gas uint64) *frame {
	fill := slices.Concat(pushed(n(0), bytesWord(counted(1, 32))), raw("52"))
	return of(fill, pushed(value, salt, at, size), []byte{0xec, sub}, raw("3d"), dump(2)).gas(12 + 12 + gas)
}

// leavesZero: 0 is left, behind what it costs, and nothing is asked.
func (x *frame) leavesZero(t *testing.T, memory int, left uint64) {
	t.Helper()
	r := x.bare(t)
	if made := r.Go(8); made != 8 || r.State() != api.Going {
		t.Errorf("%v: %d steps, %+v", x, made, r.Sight())
		return
	}
	if s := r.Sight(); s != (api.Sight{At: 6*33 + 1 + 2, Height: 1, Memory: memory, Left: left}) {
		t.Errorf("%v: %+v", x, s)
	}
	if wrong := alikeWorlds(r.w, x.made(t), keys()); wrong != "" {
		t.Errorf("%v: %s", x, wrong)
	}
	r.Go(many)
	if end, _ := r.Ended(); end.Kind != api.EndRevert || !bytes.Equal(end.Output[memory:], zero(64)) {
		t.Errorf("%v: %+v", x, end)
	}
}

// 13.7, Nested containers: EOFCREATE of one that is not there: all is paid but for its hash, and 0 is left.
func TestBareCreatesOfNothing(t *testing.T) {
	for _, sub := range []byte{0, 1, 7, 255} {
		x := creating(sub, n(2), top, n(5), n(3), 32000+1000)
		if sub > 0 {
			x.subs(least(0xfe))
		}
		x.leavesZero(t, 32, 1000)
		creating(sub, n(2), top, n(30), n(4), 32000+3+1000).turn(func(y *frame) { y.c.Subs = x.c.Subs }).leavesZero(t, 64, 1000)
		short := creating(sub, n(2), top, n(30), n(4), 32000+2).turn(func(y *frame) { y.c.Subs = x.c.Subs })
		short.bares(t, 8, api.Place{At: 6*33 + 1}, halted(api.HaltGas))
		creating(sub, n(0), n(0), n(0), n(0), 31999).bares(t, 8, api.Place{At: 6*33 + 1}, halted(api.HaltGas))
		creating(sub, n(0), n(0), n(0), n(0), 32000).still().bares(t, 8, api.Place{At: 6*33 + 1}, halted(api.HaltStill))
		creating(sub, n(0), n(0), n(0), n(api.MaxMemory+1), 99999).bares(t, 8, api.Place{At: 6*33 + 1}, halted(api.HaltGas))
	}
}

// 13.7, Nested containers: EOFCREATE of one that is not parsed as a whole one: its hash is paid for by its length, and 0 is left.
func TestBareCreatesOfNone(t *testing.T) {
	for _, b := range noWhole() {
		hash := uint64(6 * ((len(b) + 31) / 32))
		creating(0, n(2), top, n(5), n(3), 32000+hash+1000).subs(b).leavesZero(t, 32, 1000)
		creating(0, n(2), top, n(5), n(3), 32000+hash+100).subs(b).depth(api.MaxDepth-1).leavesZero(t, 32, 100)
		creating(0, n(8), top, n(5), n(3), 32000+hash+100).subs(b).leavesZero(t, 32, 100)
		creating(0, n(2), top, n(5), n(3), 32000+hash-1).subs(b).bares(t, 8, api.Place{At: 6*33 + 1}, halted(api.HaltGas))
		creating(0, n(2), top, n(5), n(3), 32000+hash).subs(b).still().bares(t, 8, api.Place{At: 6*33 + 1}, halted(api.HaltStill))
	}
	// one that parses is asked for, valid or not
	for _, b := range [][]byte{least(0xfe), least(0x0c), sized(0x00, 3, 3)} {
		r := creating(0, n(2), top, n(5), n(3), 32006+6400).subs(b).bare(t)
		r.Go(many)
		if got, ok := r.Asked(); !ok || !alikeAsks(got, api.Ask{Kind: api.AskMake, Value: n(2), Salt: top, Input: []byte{6, 7, 8}, Gas: 6300}) {
			t.Errorf("%x: %+v, %v", b, got, ok)
		}
	}
}

// 13.7, Nested containers: the return data of an earlier call are gone behind such an EOFCREATE.
func TestBareCreatesClearReturnData(t *testing.T) {
	call := slices.Concat(pushed(numbers(10, 0, 0, 0)...), raw("f8 50"))
	x := of(call, pushed(numbers(0, 0, 0, 0)...), raw("ec00 50 3d"), dump(1)).gas(200000)
	for _, subs := range [][][]byte{nil, {{0xef}}} {
		r := x.subs(subs...).bare(t)
		r.Go(many)
		asked, _ := r.Asked()
		r.Give(api.Reply{Output: zero(9), Left: asked.Gas})
		r.Go(many)
		if got, _ := r.Ended(); !bytes.Equal(got.Output, zero(32)) {
			t.Errorf("%+v", got)
		}
	}
}

// deploying is a frame in which RETURNCODE names the nested container of that number, with so much gas for it.
func deploying(sub byte, at, size api.Word, gas uint64) *frame {
	fill := slices.Concat(pushed(n(0), bytesWord(counted(1, 32))), raw("52"))
	return of(fill, pushed(at, size), []byte{0xee, sub}).gas(12 + 6 + gas)
}

// 13.7, Nested containers: RETURNCODE of one that is not there, or is not parsed as an open one: HaltDeploy, behind the piece.
func TestBareDeploysOfNone(t *testing.T) {
	place := api.Place{At: 4*33 + 1}
	for _, kind := range []int{api.Runtime, api.Init} {
		try := func(x *frame, want int) {
			t.Helper()
			x.f.Kind = kind
			x.bares(t, 6, place, halted(want))
		}
		for _, sub := range []byte{0, 1, 255} {
			subs := [][]byte{least(0x00)}[:min(int(sub), 1)]
			try(deploying(sub, n(0), n(0), 0).subs(subs...), api.HaltDeploy)
			try(deploying(sub, n(0), n(32), 100000).subs(subs...), api.HaltDeploy)
			try(deploying(sub, n(30), n(4), 3).subs(subs...), api.HaltDeploy)
			try(deploying(sub, n(30), n(4), 2).subs(subs...), api.HaltGas)
			try(deploying(sub, n(0), n(api.MaxMemory+1), 100000).subs(subs...), api.HaltGas)
		}
		for _, b := range noOpen() {
			try(deploying(0, n(0), n(0), 0).subs(b), api.HaltDeploy)
			try(deploying(0, n(30), n(4), 3).subs(b), api.HaltDeploy)
			try(deploying(0, n(30), n(4), 2).subs(b), api.HaltGas)
		}
		// an open one is parsed: whether its data suffice is asked
		try(deploying(0, n(0), n(0), 100000).subs(sized(0x00, 3, 2)), api.HaltDeploy)
		x := deploying(0, n(0), n(1), 200*23).subs(sized(0x00, 3, 2))
		x.f.Kind = kind
		x.bares(t, 6, place, api.Ending{Kind: api.EndDeploy, Output: append(sized(0x00, 3, 2), 1), Behind: []byte{1}})
	}
}
