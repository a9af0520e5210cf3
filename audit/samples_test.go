package audit_test

import (
	"bytes"
	"fmt"
	"slices"
	"testing"

	"vouch/api"
)

// sample is a code, and what is to be said of it: written out, not asked for.
type sample struct {
	name string
	code []byte
	no   api.Reject
}

// good are codes that are valid.
func good() []sample {
	return []sample{
		{"STOP", raw("ef0001 010004 0200010001 ff000000 00800000 00"), api.Reject{}},
		{"INVALID", bytesOf(stuck()), api.Reject{}},
		{"RETURN", bytesOf(of(typed(2), "5f 5f f3")), api.Reject{}},
		{"REVERT", bytesOf(of(typed(2), "5f 5f fd")), api.Reject{}},
		{"to itself", bytesOf(of(typed(0), "e0 fffd")), api.Reject{}},
		{"a table", bytesOf(of(typed(1), "5f e2 01 0000 0001 5b 00")), api.Reject{}},
		{"sections", bytesOf(of(typed(1, 0, 1, 1, 0, never, 0), "e3 0001 50 e5 0002", "5f e4", "00")), api.Reject{}},
		{"data", bytesOf(declared(of(typed(1), "d1 0000 00"), 32, 32)), api.Reject{}},
		{"makes", makes(bytesOf(stuck())), api.Reject{}},
		{"makes what lays", makes(lays(bytesOf(stop())), bytesOf(stuck())), api.Reject{}},
		{"lays what makes, open", makes(lays(makes(bytesOf(stuck())), bytesOf(declared(stop(), 5, 3)))), api.Reject{}},
		{"1023 words", bytesOf(of(typed(1023), string(bytes.Repeat([]byte("5f"), 1023))+"00")), api.Reject{}},
		{"as long as a world's", data(api.MaxDeploy), api.Reject{}},
		{"longer than a world's", data(api.MaxDeploy + 1), api.Reject{}},
		{"longer than one to create with", data(api.MaxInit + 1), api.Reject{}},
		{"as long as data may be", data(65535 + 20), api.Reject{}},
		{"of long sections", long(3), api.Reject{}},
	}
}

// misread are codes that are the bytes of no whole container.
func misread() []sample {
	least := bytesOf(stop())
	turned := func(at int, to byte) []byte {
		b := slices.Clone(least)
		b[at] = to
		return b
	}
	l := []sample{
		{"short data", bytesOf(declared(stop(), 5, 3)), no(api.ErrCut, 0, 23)},
		{"no data", bytesOf(declared(stop(), 5, 0)), no(api.ErrCut, 0, 20)},
		{"a byte behind", append(bytesOf(declared(stop(), 5, 5)), 0), no(api.ErrTail, 0, 25)},
		{"two containers", append(slices.Clone(least), least...), no(api.ErrTail, 0, 20)},
		{"the first byte", turned(0, 0x60), no(api.ErrMagic, 0, 0)},
		{"the second byte", turned(1, 1), no(api.ErrMagic, 0, 1)},
		{"the version", turned(2, 2), no(api.ErrVersion, 0, 2)},
		{"no types' kind", turned(3, 2), no(api.ErrKind, 0, 3)},
		{"a size of types", turned(5, 5), no(api.ErrTypes, 0, 4)},
		{"no codes' kind", turned(6, 3), no(api.ErrKind, 0, 6)},
		{"a number of codes", turned(8, 2), no(api.ErrCodes, 0, 7)},
		{"a section of no byte", turned(10, 0), no(api.ErrNone, 0, 9)},
		{"no data's kind", turned(11, 4), no(api.ErrKind, 0, 11)},
		{"no nested ones", slices.Concat(least[:11], raw("03 0000"), least[11:]), no(api.ErrSubs, 0, 12)},
		{"257 nested ones", slices.Concat(least[:11], raw("03 0101"), least[11:]), no(api.ErrSubs, 0, 12)},
		{"a nested one of no byte", slices.Concat(least[:11], raw("03 0001 00000000"), least[11:]), no(api.ErrNone, 0, 14)},
		{"an end", turned(14, 1), no(api.ErrKind, 0, 14)},
		{"In of the first", turned(15, 1), no(api.ErrType, 0, 15)},
		{"Out of the first", turned(16, 0x7f), no(api.ErrType, 0, 16)},
		{"Most", turned(17, 4), no(api.ErrType, 0, 17)},
		{"one byte", raw("00"), no(api.ErrMagic, 0, 0)},
		{"as many as a world's, all 0", make([]byte, api.MaxDeploy), no(api.ErrMagic, 0, 0)},
		{"long, a byte behind", append(long(3), 0), no(api.ErrTail, 0, 27000+31)},
		{"long, a byte too few", long(3)[:27000], no(api.ErrCut, 0, 27000)},
	}
	for cut := 1; cut < len(least); cut++ {
		l = append(l, sample{fmt.Sprint(cut, " of 20 bytes"), least[:cut:cut], no(api.ErrCut, 0, cut)})
	}
	return l
}

// broken are containers that break one clause in a section, or as a whole.
func broken() []sample {
	idle := with(of(typed(4), "5f 5f 5f 5f ec 00 fe"), bytesOf(stuck()), bytesOf(stuck()))
	l := []struct {
		name string
		c    api.Container
		no   api.Reject
	}{
		{"no instruction", of(typed(1), "5b 5f 50 0c fe"), no(api.ErrOpcode, 0, 3)},
		{"immediate bytes", of(typed(0), "5b 5b 60"), no(api.ErrImm, 0, 2)},
		{"no end", of(typed(0), "fe fe 5f"), no(api.ErrOpen, 0, 2)},
		{"RETURNCODE", with(of(typed(2), "5f 5f ee 00"), bytesOf(stop())), no(api.ErrBarred, 0, 2)},
		{"a jump into immediate bytes", of(typed(1), "e0 0001 60 fe fe"), no(api.ErrTarget, 0, 0)},
		{"a jump ahead of all", of(typed(0), "5b e0 fffb"), no(api.ErrTarget, 0, 1)},
		{"CALLF of none", of(typed(0), "5b e3 0001 fe"), no(api.ErrSection, 0, 1)},
		{"JUMPF to none", of(typed(0, 0, 0, 0), "e3 0001 fe", "5b e5 0002"), no(api.ErrSection, 1, 1)},
		{"RETF", of(typed(0), "5b e4"), no(api.ErrNever, 0, 1)},
		{"CALLF of one that never returns", of(typed(0, 0, never, 0), "5b e3 0001 fe", "fe"), no(api.ErrNever, 0, 1)},
		{"JUMPF to one that gives more", of(typed(0, 0, 0, 0, 0, 1, 1), "e3 0001 fe", "5b e5 0002", "5f e4"), no(api.ErrOuts, 1, 1)},
		{"no data", declared(of(typed(1), "5b d1 0001 fe"), 32, 32), no(api.ErrData, 0, 1)},
		{"no nested one", with(of(typed(4), "5f 5f 5f 5f ec 01 fe"), bytesOf(stuck())), no(api.ErrSub, 0, 4)},
		{"nothing reaches it", of(typed(0), "fe fe"), no(api.ErrDead, 0, 1)},
		{"nothing to take", of(typed(0), "5b 50 fe"), no(api.ErrUnder, 0, 1)},
		{"1024 words", of(typed(1023), string(bytes.Repeat([]byte("5f"), 1024))+"fe"), no(api.ErrOver, 0, 1023)},
		{"more words than are given back", of(typed(1, 1, 0, 1), "5f e3 0001 fe", "5b e4"), no(api.ErrReturn, 1, 1)},
		{"a jump back to other heights", of(typed(1), "5f e0 fffc"), no(api.ErrLoop, 0, 1)},
		{"less declared", of(typed(0), "5f fe"), no(api.ErrMost, 0, 0)},
		{"more declared", of(typed(2), "5f fe"), no(api.ErrMost, 0, 0)},
		{"it never returns", of(typed(0, 0, 0, 0), "e3 0001 fe", "fe"), no(api.ErrFlag, 1, 0)},
		{"a section apart", of(typed(0, 0, 0, 0, 0, 0, 0), "e3 0002 fe", "e4", "e4"), no(api.ErrApart, 1, 0)},
		{"a nested one idle", idle, no(api.ErrIdle, 0, 0, 1)},
	}
	var out []sample
	for _, x := range l {
		out = append(out, sample{x.name, bytesOf(x.c), x.no})
	}
	return out
}

// nested are codes within which something is refused.
func nested() []sample {
	fine := bytesOf(stuck())
	both := bytesOf(with(of(typed(4), "5f 5f 5f 5f ec 00 5f ee 00"), fine))
	l := []sample{
		{"STOP to create with", makes(bytesOf(stop())), no(api.ErrBarred, 0, 0, 0)},
		{"RETURN to create with", makes(fine, bytesOf(of(typed(2), "5f 5f f3"))), no(api.ErrBarred, 0, 2, 1)},
		{"RETURNCODE that is laid", makes(fine, lays(fine, lays(fine))), no(api.ErrBarred, 0, 6, 1, 1)},
		{"named for both uses", makes(both), no(api.ErrBoth, 0, 0, 0, 0)},
		{"named for both uses, deep", makes(fine, makes(fine, fine, both)), no(api.ErrBoth, 0, 0, 1, 2, 0)},
		{"short data to create with", makes(fine, fine, bytesOf(declared(stuck(), 5, 3))), no(api.ErrCut, 0, 23, 2)},
		{"a byte behind what is laid", makes(lays(append(bytesOf(stop()), 1))), no(api.ErrTail, 0, 20, 0, 0)},
		{"two, the first is told", makes(fine, raw("ee"), raw("ef")), no(api.ErrMagic, 0, 0, 1)},
		{"two, the deep one is told", makes(makes(fine, raw("ef00")), raw("ee")), no(api.ErrCut, 0, 2, 0, 1)},
	}
	path := []int{2, 0, 1, 1, 0, 2, 1}
	for _, x := range broken() {
		if x.name == "RETURNCODE" { // as what it is nested it may
			continue
		}
		deep := x.code
		for _, number := range slices.Backward(path) {
			subs := [][]byte{fine, fine, fine}
			subs[number] = deep
			deep = makes(subs...)
		}
		x.name, x.code, x.no.Path = x.name+", deep within", deep, slices.Concat(path, x.no.Path)
		l = append(l, x)
	}
	inner := raw("ef01")
	for range 300 {
		inner = makes(inner)
	}
	return append(l, sample{"300 deep", inner, no(api.ErrMagic, 0, 1, make([]int, 300)...)})
}

// samples are all of them.
func samples() []sample { return slices.Concat(good(), misread(), broken(), nested()) }

// shuffled is a list of the samples, drawn, and what is to be told of it; so many of ten have no code.
func (g drawing) shuffled(all []sample, bare int) ([]api.Account, []api.Verdict) {
	var l []api.Account
	var want []api.Verdict
	for _, i := range g.Perm(len(all)) {
		for g.IntN(10) < bare {
			l = append(l, at(api.Address(g.bytes(20)), g.Uint64(), pick(g, nil, []byte{})))
		}
		x := at(api.Address(g.bytes(20)), g.Uint64(), all[i].code)
		l, want = append(l, x), append(want, saying(x.Address, all[i].no))
	}
	return l, want
}

// 18.1: each sample alone, by any number of workers: its refusal, all of it, and its address.
func TestSamples(t *testing.T) {
	met := map[api.Errno]int{}
	for i, x := range samples() {
		tells(t, x.name, []api.Account{at(addr(i), uint64(i), x.code)}, saying(addr(i), x.no))
		met[x.no.Code]++
	}
	for _, wrong := range []api.Errno{
		api.OK, api.ErrCut, api.ErrMagic, api.ErrVersion, api.ErrKind, api.ErrTypes, api.ErrCodes, api.ErrNone, api.ErrSubs, api.ErrTail, api.ErrType,
		api.ErrOpcode, api.ErrImm, api.ErrOpen, api.ErrTarget, api.ErrUnder, api.ErrOver, api.ErrLoop, api.ErrDead, api.ErrReturn, api.ErrMost,
		api.ErrBarred, api.ErrSection, api.ErrNever, api.ErrOuts, api.ErrData, api.ErrSub, api.ErrFlag, api.ErrApart, api.ErrIdle, api.ErrBoth,
	} {
		if met[wrong] == 0 {
			t.Errorf("no sample of %d", wrong)
		}
	}
}

// 18.1, 18.2: all samples in one list, in any order, with accounts without code among them or not: the verdicts stand in the list's order, by any number of workers.
func TestSamplesTogether(t *testing.T) {
	g := draw(181)
	all := samples()
	for _, bare := range []int{0, 0, 3, 8} {
		l, want := g.shuffled(all, bare)
		tells(t, fmt.Sprint(bare, " of ten without code"), l, want...)
		alike(t, "Validate", alone(l), want)
	}
}
