package trace_test

import (
	"bytes"
	"testing"

	"vouch/api"
	"vouch/call"
)

// sample is a message that is taken; how it goes; and how deep its frames stand at most (-1: there is none).
type sample struct {
	name string
	ask
	status int
	why    int
	deep   int
}

// ofOne is a sample of one frame, of B's code.
func ofOne(name string, gas uint64, status, why int, parts ...[]byte) sample {
	return sample{name, ask{l: list(rich, at(b, 9, coded(parts...))), m: from(gas)}, status, why, 0}
}

// filled is a section that pushes so many words, and takes them away; then it returns.
func filled(most int) []byte {
	return join(bytes.Repeat([]byte{0x5f}, most), bytes.Repeat(drop, most), raw("e4"))
}

// ofEnds are runs of one frame, by how that ends.
func ofEnds() []sample {
	room := fitted([]api.Type{{}, {}}, nil, nil, raw("5f e30001 50 00"), raw("5f e30002 50 e4"), filled(api.MaxMost))
	jump := fitted([]api.Type{{Out: never}, {Out: never}}, nil, nil, raw("5f e50001"), raw("5f e50002"), join(bytes.Repeat([]byte{0x5f}, api.MaxMost), stop))
	round := fitted([]api.Type{{}}, nil, nil, raw("e30001 00"), raw("e30001 e4"))
	fresh := sample{"HaltDeploy", ask{l: list(rich), m: making(with(nest(coded(stop)), raw("61ffff 5f ee00")), 30000000)}, api.Halted, api.HaltDeploy, 0}
	still := ofOne("HaltStill", 5000, api.Halted, api.HaltStill, store(1, 2), stop)
	still.m.Still = true
	of := func(name string, code []byte, why int) sample {
		return sample{name, ask{l: list(rich, at(b, 0, code)), m: from(50000)}, api.Halted, why, 0}
	}
	return []sample{
		ofOne("STOP", 5, api.Done, 0, stop),
		ofOne("STOP without gas", 0, api.Done, 0, stop),
		ofOne("RETURN", 50000, api.Done, 0, store(1, 2), tell(3), tstore(1, 1), raw("6020 5f f3")),
		ofOne("REVERT", 50000, api.Reverted, 0, store(1, 2), tell(3), raw("6020 5f fd")),
		ofOne("INVALID", 50000, api.Halted, api.HaltInvalid, store(1, 2), invalid),
		ofOne("HaltGas at the first step", 1, api.Halted, api.HaltGas, raw("5f 50 00")),
		ofOne("HaltGas in the midst", 3, api.Halted, api.HaltGas, raw("5f 50 00")),
		ofOne("HaltGas for memory", 100, api.Halted, api.HaltGas, raw("61ffff 51 50 00")),
		ofOne("HaltGas far on", 999, api.Halted, api.HaltGas, again),
		ofOne("HaltAddress", 5000, api.Halted, api.HaltAddress, raw("5f 19 31 50 00")),
		still,
		of("HaltRoom at a CALLF", room, api.HaltRoom),
		of("HaltRoom at a JUMPF", jump, api.HaltRoom),
		of("HaltReturns", round, api.HaltReturns),
		fresh,
	}
}

// sections is code that goes through all ways from section to section.
func sections() []byte {
	types := []api.Type{{In: 1, Out: 1}, {Out: never}, {}}
	return fitted(types, nil, nil, raw("6005 e30001 50 e50002"), raw("6002 02 e4"), raw("e30003 5f e10001 5b 00"), raw("5b e4"))
}

// ofFrames are runs in which frames stand above one another.
func ofFrames() []sample {
	deployed := call.Made(b, n(2))
	made := maker(store(5, 5), calls(e, 0), drop)
	busy := with(nest(made), calls(c, 3), drop, lends(d), drop, stills(addr(15)), drop, makes(0, 1, 2), keep(3), pushed(wordOf(deployed), n(0), n(0), n(0)), raw("f8 50"), upwards)
	goes := list(rich, at(b, 9, busy), at(c, 1, coded(lends(d), drop, tell(7), reverts)), at(d, 0, coded(store(1, 1), stop)), at(addr(15), 0, coded(nops(2), raw("5f 5f f3"))))
	deep := list(rich, at(b, 0, coded(calls(b, 0), drop, stop)))
	halts := list(rich, at(b, 9, coded(calls(c, 1), drop, stills(d), drop, lends(c), drop, stop)), at(c, 0, coded(invalid)), at(d, 0, coded(store(1, 1), stop)))
	taken := api.Account{Address: deployed, Nonce: 1}
	maker2 := list(rich, at(b, 9, with(nest(maker()), makes(0, 10, 1), drop, makes(0, 1, 1), drop, makes(0, 1, 2), drop, stop)), taken)
	start := maker(calls(b, 0), drop, store(1, 2))
	within := with(nest(coded(stop), maker()), makes(1, 0, 0), drop, deploys)
	return []sample{
		{"calls of each kind", ask{l: goes, m: valued(3, 900000)}, api.Done, 0, 2},
		{"too little gas for calls", ask{l: goes, m: valued(3, 12000)}, api.Halted, api.HaltGas, 0},
		{"gas that ends within a call", ask{l: goes, m: valued(3, 19000)}, api.Halted, api.HaltGas, 1},
		{"frame above frame above frame", ask{l: deep, m: from(60000)}, api.Done, 0, 11},
		{"frames that halt", ask{l: halts, m: from(900000)}, api.Done, 0, 1},
		{"calls of nobody", ask{l: list(rich, at(b, 9, coded(calls(e, 1), drop, lends(e), drop, stills(e), drop, calls(a, 100), drop, stop))), m: from(90000)}, api.Done, 0, 0},
		{"accounts that are made, and are not", ask{l: maker2, m: from(900000)}, api.Done, 0, 1},
		{"a message that makes an account", ask{l: goes, m: making(start, 900000)}, api.Done, 0, 3},
		{"an account made within another one's making", ask{l: list(rich), m: making(within, 900000)}, api.Done, 0, 1},
		{"a making that takes back", ask{l: goes, m: making(coded(calls(b, 0), drop, reverts), 900000)}, api.Reverted, 0, 3},
		{"a still message", ask{l: goes, m: api.Message{From: a, To: b, Gas: 900000, Still: true}}, api.Halted, api.HaltStill, 0},
		{"a still message that goes well", ask{l: list(rich, at(b, 9, coded(stills(c), drop, calls(c, 0), drop, stop)), at(c, 0, coded(nops(3), stop))), m: api.Message{From: a, To: b, Gas: 90000, Still: true}}, api.Done, 0, 1},
		{"sections", ask{l: list(at(b, 0, sections())), m: from(500)}, api.Done, 0, 0},
	}
}

// ofNothing are runs without a step.
func ofNothing() []sample {
	still := from(7)
	still.Still = true
	none := func(name string, l []api.Account, m api.Message) sample {
		return sample{name, ask{l: l, m: m}, api.Done, 0, -1}
	}
	return []sample{
		none("nothing moves", list(rich), from(0)),
		none("a value", list(rich), valued(100, 7)),
		none("to oneself", list(rich), api.Message{From: a, To: a, Value: n(100), Gas: api.MaxGas}),
		none("to one without code", list(rich, at(b, 9, nil)), valued(1, 7)),
		none("nobody to nobody", nil, from(7)),
		none("a still message", list(rich), still),
	}
}

// samples are all of them.
func samples() []sample { return append(append(ofEnds(), ofFrames()...), ofNothing()...) }

// 17.2, 17.4: each sample: its steps are those of a Start of either engine that is taken step by step by hand; and it goes as it is to go.
func TestSamples(t *testing.T) {
	for _, x := range samples() {
		got := first(x.followed(t), -1)
		for _, engine := range engines {
			want, went := x.byHand(t, engine)
			alike(t, x.name, got, want)
			if went.Status != x.status || went.Why != x.why || went.Steps != uint64(len(got)) {
				t.Errorf("%s by %d: %+v, %d steps", x.name, engine, went, len(got))
			}
		}
		deep := -1
		for _, s := range got {
			deep = max(deep, s.Depth)
		}
		if deep != x.deep {
			t.Errorf("%s: the deepest frame stands at %d, not %d", x.name, deep, x.deep)
		}
		follows(t, x.name, x.ask, got)
	}
}

// follows holds what 17.4 says of the steps of a run that was told to its end.
func follows(t testing.TB, what any, x ask, got []api.Seen) {
	t.Helper()
	if len(got) == 0 {
		return
	}
	self := x.m.To
	if x.m.Make {
		self = call.Made(x.m.From, x.m.Salt)
	}
	if one := got[0]; one != (api.Seen{Self: self, Code: one.Code, Left: x.m.Gas}) {
		t.Errorf("%v: the first step: %+v", what, one)
	}
	for i, s := range got[1:] {
		if by := s.Depth - got[i].Depth; s.Depth < 0 || by < -1 || by > 1 {
			t.Errorf("%v: from step %d the depth changes by %d", what, i, by)
		}
		if s.Left > x.m.Gas {
			t.Errorf("%v: ahead of step %d %d are left", what, i+1, s.Left)
		}
	}
}
