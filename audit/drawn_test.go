package audit_test

import (
	"bytes"
	"math"
	"slices"
	"testing"

	"vouch/api"
	"vouch/audit"
	"vouch/word"
)

// spoilt is code of which a few bytes are turned, left out or put in; it need not be refused.
func (g drawing) spoilt(code []byte) []byte {
	code = bytes.Clone(code)
	telling := []byte{0x00, 0xf3, 0xee, 0xec, 0xe0, 0xe3, 0xe4, 0xe5, 0xd1, 0x50, 0x5f, 0x01, 0x02, 0xef}
	for range 1 + g.IntN(2) {
		if len(code) == 0 {
			break
		}
		i, with := g.IntN(len(code)), pick(g, pick(g, telling...), byte(g.Uint32()))
		switch g.IntN(7) {
		case 0:
			code = slices.Delete(code, i, i+1)
		case 1:
			code = slices.Insert(code, i, with)
		case 2:
			code[i] ^= 1 << g.IntN(8)
		case 3:
			code = code[:i]
		default:
			code[i] = with
		}
	}
	return code
}

// code is any: none, valid, of the other kind, spoilt, cut, or no container at all.
func (g drawing) code() []byte {
	switch g.IntN(9) {
	case 0:
		return pick(g, nil, []byte{})
	case 1:
		return g.bytes(g.IntN(60))
	case 2:
		return join(raw("ef0001"), g.bytes(g.IntN(30)))
	case 3:
		return g.container(api.Init, 1, false, b, c)
	case 4:
		return g.container(api.Runtime, 1, true, b, c)
	case 5, 6:
		return g.spoilt(g.container(api.Runtime, 1+g.IntN(2), false, b, c, d))
	}
	return g.container(api.Runtime, 1+g.IntN(2), false, b, c, d)
}

// accounts are any, as they come: most lists of them are no world.
func (g drawing) accounts(many int) []api.Account {
	var l []api.Account
	for range many {
		x := api.Account{
			Address: pick(g, addr(g.IntN(4)), api.Address{}, api.Address(g.bytes(20))),
			Nonce:   pick(g, uint64(0), 1, math.MaxUint64),
			Balance: pick(g, n(0), n(7), word.Not(n(0))),
			Code:    g.code(),
			Slots:   make([]api.Slot, g.IntN(3)),
		}
		if len(l) > 0 && g.IntN(5) == 0 { // one code twice, in one memory
			x.Code = pick(g, l...).Code
		}
		l = append(l, x)
	}
	return l
}

// 18.1, 18.2, W14, R1, R4: drawn lists, by drawn numbers of workers, those that may not be too: account by account what Validate says; and the same once more.
func TestDrawnLists(t *testing.T) {
	g := draw(195)
	met, none, deep, refused := map[api.Errno]int{}, 0, 0, 0
	for i := range 1200 {
		l := g.accounts(g.IntN(pick(g, 3, 12, 30)))
		workers := g.IntN(api.MaxWorkers) + 1
		if g.IntN(12) == 0 {
			workers = pick(g, -1, 0, api.MaxWorkers+1, int(g.Uint64()), -g.IntN(1000), api.MaxWorkers+1+g.IntN(1000))
		}
		were := copyOf(l)
		got, wrong := audit.Audit(l, workers)
		if workers < 1 || workers > 16 {
			if refused++; len(got) != 0 || wrong != api.ErrWorkers {
				t.Fatalf("list %d by %d: %d verdicts, %d", i, workers, len(got), wrong)
			}
			continue
		}
		want := alone(were)
		alike(t, i, got, want)
		alike(t, i, audited(t, i, l, 1+g.IntN(api.MaxWorkers)), want)
		for j, x := range l {
			if y := were[j]; x.Address != y.Address || x.Nonce != y.Nonce || x.Balance != y.Balance || !bytes.Equal(x.Code, y.Code) || !slices.Equal(x.Slots, y.Slots) {
				t.Fatalf("list %d: account %d has changed", i, j)
			}
		}
		none += len(l) - len(got)
		for _, x := range got {
			met[x.Reject.Code]++
			deep += len(x.Reject.Path)
		}
	}
	for _, wrong := range []api.Errno{api.OK, api.ErrCut, api.ErrMagic, api.ErrTail, api.ErrOpcode, api.ErrImm, api.ErrTarget, api.ErrUnder, api.ErrDead, api.ErrMost, api.ErrBarred, api.ErrSub} {
		if met[wrong] < 10 {
			t.Errorf("only %d of %d", met[wrong], wrong)
		}
	}
	if none < 500 || deep < 200 || refused < 50 {
		t.Errorf("only %d without code, %d numbers in paths, %d refused", none, deep, refused)
	}
	t.Log(met, none, deep, refused)
}

// R1: nested in one another as deep as may be told in a moment; several of them at one time.
func TestVeryDeep(t *testing.T) {
	const depth = 2000
	fine, wrong := bytesOf(stuck()), raw("ef")
	for range depth {
		fine, wrong = makes(fine), makes(wrong)
	}
	isCut := no(api.ErrCut, 0, 1, make([]int, depth)...)
	l := []api.Account{at(a, 1, fine), at(b, 1, wrong), at(c, 1, nil), at(d, 1, wrong), at(e, 1, fine)}
	for _, workers := range []int{1, 4, api.MaxWorkers} {
		alike(t, workers, audited(t, workers, l, workers), []api.Verdict{{Address: a}, saying(b, isCut), saying(d, isCut), {Address: e}})
	}
}
