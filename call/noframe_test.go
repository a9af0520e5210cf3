package call_test

import (
	"math"
	"testing"

	"vouch/api"
	"vouch/call"
	"vouch/word"
)

// 14.5: a message to an address without code: it has ended when it begins, without a step; the value has moved, nothing else, and nobody is an account for it.
func TestMessageWithoutCode(t *testing.T) {
	for _, engine := range engines {
		for _, row := range []struct {
			name  string
			m     api.Message
			a, to uint64
		}{
			{"a value", valued(3, 5), 97, 3},
			{"all", valued(100, 5), 0, 100},
			{"nothing", valued(0, 5), 100, 0},
			{"no gas", valued(3, 0), 97, 3},
			{"all gas", valued(3, api.MaxGas), 97, 3},
			{"still", api.Message{From: a, To: b, Gas: 7, Still: true}, 100, 0},
			{"to itself", api.Message{From: a, To: a, Value: n(60), Gas: 7}, 100, 100},
			{"from nobody", api.Message{From: d, To: b, Gas: 7}, 100, 0},
		} {
			w := made(t, rich)
			r := begun(t, w, row.m, engine)
			got, ended := r.Ended()
			if !ended {
				t.Errorf("%s: it has not ended", row.name)
			}
			wants(t, row.name, got, api.Result{Status: api.Done, Left: row.m.Gas})
			if s, more := r.Next(); more || s != (api.Seen{}) || r.Go(5) != 0 {
				t.Errorf("%s: %+v comes", row.name, s)
			}
			if w.Balance(a) != n(row.a) || w.Balance(row.m.To) != n(row.to) || w.Is(b) != (w.Balance(b) != n(0)) || w.Nonce(a) != 0 || w.Nonce(b) != 0 {
				t.Errorf("%s: %s", row.name, accounts(w))
			}
			if w.Mark() != 0 {
				t.Errorf("%s: a mark is left", row.name)
			}
		}
	}
}

// reports is code that returns the word on the stack, how long the return data are, and these.
var reports = raw("5f 52 3d 6020 52 3d 5f 6040 3e 3d 6040 01 5f f3")

// report is what it has returned.
func report(t testing.TB, x api.Result) (api.Word, []byte) {
	t.Helper()
	if x.Status != api.Done || len(x.Output) < 64 {
		t.Fatalf("%+v", x)
	}
	left, _ := word.FromBytes(x.Output[:32])
	size, _ := word.FromBytes(x.Output[32:64])
	if size != n(uint64(len(x.Output)-64)) {
		t.Fatalf("%v bytes: %+v", size, x)
	}
	return left, x.Output[64:]
}

// 14.5: AskCall and AskStill of an address without code: answered without a step, with all of the gas, and no return data, also where some stood there; the value of AskCall has moved. (AskDelegate is not asked there at all.)
func TestAskWithoutCode(t *testing.T) {
	for _, engine := range engines {
		for _, row := range []struct {
			name string
			asks []byte
			want uint64
			cost uint64 // with what it takes being pushed
			b, e uint64
		}{
			{"AskCall", calls(e, 0), api.Went, 2609, 10, 0},
			{"AskCall with a value", calls(e, 4), api.Went, 36610, 6, 4},
			{"AskCall with all", calls(e, 10), api.Went, 36610, 0, 10},
			{"AskStill", stills(e), api.Went, 2607, 10, 0},
			{"AskDelegate", lends(e), api.TookBack, 2607, 10, 0},
			{"AskCall with more", calls(e, 11), api.TookBack, 36610, 10, 0},
		} {
			w := made(t, rich, at(b, 10, coded(calls(c, 0), drop, row.asks, reports)), at(c, 0, coded(raw("6007 5f f3"))))
			r := begun(t, w, from(200000), engine)
			for range 2 { // ahead of the second ask: behind the first one's frame
				for s, _ := r.Next(); s.Code < 0xf8; s, _ = r.Next() {
					r.Go(1)
				}
				r.Go(1)
				if s, _ := r.Next(); s.Depth == 1 {
					atDepth(t, r, 0)
				}
			}
			s, _ := r.Next()
			if s.Depth != 0 || s.Self != b || s.Height != 1 || s.Code != 0x5f {
				t.Errorf("%s: %+v comes", row.name, s)
			}
			// ahead of it: the first call, its frame, and a POP
			if want := 200000 - 9 - 2600 - 5 - 3 - 2 - row.cost; s.Left != want {
				t.Errorf("%s by %d: %d left, not %d", row.name, engine, s.Left, want)
			}
			r.Go(many)
			got, _ := r.Ended()
			if left, data := report(t, got); left != n(row.want) || len(data) != 0 {
				t.Errorf("%s: %v, %x", row.name, left, data)
			}
			if w.Balance(b) != n(row.b) || w.Balance(e) != n(row.e) || w.Is(e) != (row.e > 0) || !warm(w, e) {
				t.Errorf("%s: %s", row.name, accounts(w))
			}
		}
	}
}

// 14.5: AskMake where the address is taken, by a nonce or by a code: Failed, all the gas that passed is gone, no value moves, no return data; the maker's nonce is one more, and the address is warm. A balance alone takes nothing.
func TestAskMakeTaken(t *testing.T) {
	x := call.Made(b, n(1))
	for _, engine := range engines {
		for _, row := range []struct {
			name  string
			there api.Account
			taken bool
		}{
			{"nobody", api.Account{}, false},
			{"a balance", api.Account{Balance: n(7)}, false},
			{"a nonce", api.Account{Nonce: 1}, true},
			{"the greatest nonce", api.Account{Nonce: math.MaxUint64, Balance: n(7)}, true},
			{"a code", api.Account{Code: coded(stop)}, true},
			{"both", api.Account{Nonce: 2, Code: coded(invalid)}, true},
		} {
			l := []api.Account{rich, {Address: b, Nonce: 5, Balance: n(10), Code: with(nest(maker()), makes(0, 3, 1), reports)}}
			row.there.Address = x
			if row.there.Nonce != 0 || row.there.Balance != n(0) || row.there.Code != nil {
				l = append(l, row.there)
			}
			w := made(t, l...)
			r := begun(t, w, from(1000000), engine)
			r.Go(4)
			if warm(w, x) || w.Nonce(b) != 5 {
				t.Errorf("%s: ahead of it", row.name)
			}
			r.Go(1)
			if !warm(w, x) || w.Nonce(b) != 6 {
				t.Errorf("%s: nonce %d, warm %v", row.name, w.Nonce(b), warm(w, x))
			}
			s, _ := r.Next()
			if (s.Depth == 0) != row.taken {
				t.Errorf("%s: %+v comes", row.name, s)
			}
			left := 1000000 - 10 - 32000 - 6*uint64((len(maker())+31)/32)
			if row.taken && s.Left != left/64 || !row.taken && s.Left != left-left/64 {
				t.Errorf("%s: %d are left of %d", row.name, s.Left, left)
			}
			r.Go(many)
			got, _ := r.Ended()
			word, data := report(t, got)
			if row.taken {
				if word != n(0) || len(data) != 0 || w.Balance(b) != n(10) || w.Balance(x) != row.there.Balance || w.Nonce(x) != row.there.Nonce {
					t.Errorf("%s: %v %x, %s", row.name, word, data, accounts(w))
				}
			} else if word != wordOf(x) || len(data) != 0 || w.Balance(b) != n(7) || w.Nonce(x) != 1 {
				t.Errorf("%s: %v %x, %s", row.name, word, data, accounts(w))
			}
			if w.Nonce(b) != 6 {
				t.Errorf("%s: nonce %d", row.name, w.Nonce(b))
			}
		}
	}
}

// 14.5: the nonce and what is warm behind each end of what makes an account; and both are as they were where the asker is taken back.
func TestNonceAndWarmOfAMaker(t *testing.T) {
	x := call.Made(c, n(1))
	for _, engine := range engines {
		for name, start := range map[string][]byte{
			"made":       maker(),
			"taken back": with(nil, reverts),
			"halted":     with(nil, invalid),
			"taken":      nil,
		} {
			for asker, end := range map[string][]byte{"stays": stop, "is taken back": reverts, "halts": invalid} {
				l, within := []api.Account{rich, at(b, 0, coded(calls(c, 2), answers))}, start
				if name == "taken" {
					l, within = append(l, api.Account{Address: x, Nonce: 1}), maker()
				}
				w := made(t, append(l, api.Account{Address: c, Nonce: 5, Code: with(nest(within), makes(0, 1, 1), drop, end)})...)
				got := through(t, w, valued(2, 1000000), engine)
				stays := asker == "stays"
				if got.Status != api.Done || (got.Output[31] == api.Went) != stays {
					t.Fatalf("%s, the asker %s: %+v", name, asker, got)
				}
				if nonce := w.Nonce(c); (nonce == 6) != stays || (nonce == 5) == stays || warm(w, x) != stays {
					t.Errorf("%s, the asker %s: nonce %d, warm %v", name, asker, nonce, warm(w, x))
				}
				_, has := w.Code(x)
				if has != (stays && name == "made") || w.Balance(x) != n(map[bool]uint64{true: 1}[has]) {
					t.Errorf("%s, the asker %s: %s", name, asker, accounts(w))
				}
			}
		}
	}
}

// 14.5, 14.6: of a message that makes an account From's nonce is one more, and what was to be made is warm, whatever becomes of the frame.
func TestNonceOfFrom(t *testing.T) {
	x := call.Made(a, n(0))
	for _, engine := range engines {
		for name, start := range map[string][]byte{"made": maker(), "taken back": with(nil, reverts), "halted": with(nil, invalid)} {
			w := made(t, rich)
			m := making(start, 50000)
			m.Value = n(30)
			got := through(t, w, m, engine)
			done := name == "made"
			if w.Nonce(a) != 1 || !warm(w, x) || w.Is(x) != done || (got.Status == api.Done) != done || (w.Balance(a) == n(70)) != done || (got.Made == x) != done {
				t.Errorf("%s: %+v, %s", name, got, accounts(w))
			}
		}
		// a message that makes nothing raises none
		w := made(t, rich, at(b, 0, coded(calls(c, 0), drop, stop)), at(c, 0, coded(stop)))
		through(t, w, from(50000), engine)
		if w.Nonce(a) != 0 || w.Nonce(b) != 0 || w.Nonce(c) != 0 {
			t.Error(accounts(w))
		}
	}
}
