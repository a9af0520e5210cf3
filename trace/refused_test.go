package trace_test

import (
	"errors"
	"math"
	"slices"
	"testing"

	"vouch/api"
	"vouch/call"
	"vouch/exec"
	"vouch/trace"
	"vouch/word"
)

// good is one that is taken: A, B with code and slots, C; and a message that has what it needs to make an account, too.
func good() *ask {
	coder := at(b, 3, coded(stop))
	coder.Slots = []api.Slot{{Key: n(1), Value: n(5)}, {Key: n(2), Value: n(6)}, {Key: n(9), Value: n(1)}}
	m := from(5000)
	m.Init, m.Input = maker(), []byte{1, 2}
	return &ask{l: []api.Account{rich, coder, at(c, 9, nil)}, m: m}
}

// taken: an account stands where one is to be made.
func (x *ask) taken(l api.Account) {
	l.Address = call.Made(a, n(0))
	i := slices.IndexFunc(x.l, func(y api.Account) bool { return y.Address == l.Address })
	if i < 0 {
		x.l, i = append(x.l, l), len(x.l)
	}
	x.l[i] = l
	x.m.Make = true
}

// start: an account is to be made with this.
func start(code []byte) func(x *ask) {
	return func(x *ask) { x.m.Make, x.m.Init = true, code }
}

// lays: B has this code.
func lays(code []byte) func(x *ask) { return func(x *ask) { x.l[1].Code = code } }

// spoil is one thing for which a message is refused.
type spoil struct {
	name string
	want exec.Refusal
	turn func(x *ask)
}

// ofAccounts are those of the list, in the order of chapter 15.
func ofAccounts() []spoil {
	no := func(wrong api.Errno, at int) exec.Refusal { return exec.Refusal{Code: wrong, At: at} }
	slots := func(l ...api.Slot) func(x *ask) { return func(x *ask) { x.l[1].Slots = l } }
	all := word.Not(n(0))
	return []spoil{
		{"A is none", no(api.ErrEmpty, 0), func(x *ask) { x.l[0].Nonce, x.l[0].Balance = 0, n(0) }},
		{"A is bare", no(api.ErrBare, 0), func(x *ask) { x.l[0].Slots = []api.Slot{{Key: n(1), Value: n(1)}} }},
		{"B is A", no(api.ErrOrder, 1), func(x *ask) { x.l[1].Address = a }},
		{"B is bare", no(api.ErrBare, 1), lays(nil)},
		{"keys fall", no(api.ErrOrder, 1), slots(api.Slot{Key: n(2), Value: n(1)}, api.Slot{Key: n(1), Value: n(1)})},
		{"no slot", no(api.ErrEmpty, 1), slots(api.Slot{Key: n(2), Value: n(1)}, api.Slot{Key: n(3)})},
		{"a code of one byte", no(api.ErrCode, 1), lays([]byte{0})},
		{"a code that makes", no(api.ErrCode, 1), lays(maker())},
		{"a code that takes nothing away", no(api.ErrCode, 1), lays(raw("ef00010100040200010002ff000000008000005000"))},
		{"a long code", no(api.ErrCode, 1), lays(fitted(nil, nil, make([]byte, api.MaxDeploy-19), stop))},
		{"C is B", no(api.ErrOrder, 2), func(x *ask) { x.l[2].Address = b }},
		{"C is none", no(api.ErrEmpty, 2), func(x *ask) { x.l[2].Balance, x.l[2].Code = n(0), nil }},
		{"C's code", no(api.ErrCode, 2), func(x *ask) { x.l[2].Code = raw("ef0001") }},
		{"the sum up to B", no(api.ErrSum, 1), func(x *ask) { x.l[0].Balance, x.l[1].Balance = n(1), all }},
		{"the sum up to C", no(api.ErrSum, 2), func(x *ask) { x.l[2].Balance = all }},
	}
}

// ofStarts are those of the container to create with.
func ofStarts() []spoil {
	no := func(wrong api.Errno, section, at int, path ...int) exec.Refusal {
		return exec.Refusal{Code: api.ErrInit, Reject: api.Reject{Code: wrong, Path: path, Section: section, At: at}}
	}
	second := fitted([]api.Type{{}}, nest(coded(stop)), nil, join(raw("e30001"), deploys), raw("50 e4"))
	under := raw("ef00010100040200010002ff000000008000005000")
	deep := with(nest(coded(stop), with(nest(with(nest(under), deploys)), makes(0, 0, 0), drop, stop)), raw("36 e10004"), deploys, raw("5f 5f ee01"))
	return []spoil{
		{"no init", no(api.ErrCut, 0, 0), start(nil)},
		{"an init of no container", no(api.ErrMagic, 0, 1), start(raw("efef"))},
		{"a runtime init", no(api.ErrBarred, 0, 0), start(coded(stop))},
		{"an init that takes nothing away", no(api.ErrUnder, 1, 0), start(second)},
		{"an init within", no(api.ErrUnder, 0, 0, 0), start(with(nest(under), deploys))},
		{"an init deep within", no(api.ErrUnder, 0, 0, 1, 0, 0), start(deep)},
		{"an init with bytes behind", no(api.ErrTail, 0, 50), start(append(maker(), 0))},
		{"a long init", exec.Refusal{Code: api.ErrInit}, start(long(api.MaxInit + 1))},
		{"an open init", no(api.ErrCut, 0, 599), start(long(600)[:599])},
	}
}

// ofMessages are those of block and message, in the order of chapter 14.
func ofMessages() []spoil {
	no := func(wrong api.Errno) exec.Refusal { return exec.Refusal{Code: wrong} }
	return slices.Concat([]spoil{
		{"gas", no(api.ErrArg), func(x *ask) { x.m.Gas = api.MaxGas + 1 }},
		{"all gas", no(api.ErrArg), func(x *ask) { x.m.Gas = math.MaxUint64 }},
		{"hashes", no(api.ErrBlock), func(x *ask) { x.b.Hashes = make([]api.Hash, api.MaxHashes+1) }},
		{"still, a value", no(api.ErrStill), func(x *ask) { x.m.Still, x.m.Value = true, n(1) }},
		{"still, an account", no(api.ErrStill), func(x *ask) { x.m.Still, x.m.Make = true, true }},
		{"funds", no(api.ErrFunds), func(x *ask) { x.m.Value = n(101) }},
		{"great funds", no(api.ErrFunds), func(x *ask) { x.m.Value = api.Word{0, 1} }},
	}, ofStarts(), []spoil{
		{"nonce", no(api.ErrTaken), func(x *ask) { x.l[0].Nonce, x.m.Make = math.MaxUint64, true }},
		{"taken by a nonce", no(api.ErrTaken), func(x *ask) { x.taken(api.Account{Nonce: 1}) }},
		{"taken by a code", no(api.ErrTaken), func(x *ask) { x.taken(at(a, 0, coded(stop))) }},
	})
}

// alikeRefusals: they say the same.
func alikeRefusals(x, y exec.Refusal) bool {
	return x.Code == y.Code && x.At == y.At && x.Reject.Code == y.Reject.Code && slices.Equal(x.Reject.Path, y.Reject.Path) && x.Reject.Section == y.Reject.Section && x.Reject.At == y.Reject.At
}

// refused: Follow refuses it so, as Begin does, and answers no sequence; what was handed in stays. It is that refusal.
func refused(t testing.TB, what any, x ask, want exec.Refusal) *exec.Refusal {
	t.Helper()
	was := text(x.l)
	seq, err := trace.Follow(x.l, x.b, x.m)
	_, begin := exec.Begin(x.l, x.b, x.m, api.Checked)
	no, is := err.(*exec.Refusal)
	if seq != nil || !is || no == nil || !alikeRefusals(*no, want) {
		t.Fatalf("%v: %v, %+v, not %+v", what, seq != nil, err, want)
	}
	if same, is := begin.(*exec.Refusal); !is || !alikeRefusals(*no, *same) || no == same {
		t.Errorf("%v: %+v, and Begin's is %+v", what, no, begin)
	}
	if !errors.Is(err, want.Code) || err.Error() != want.Code.Error() {
		t.Errorf("%v: %v", what, err)
	}
	if text(x.l) != was {
		t.Errorf("%v: the list has changed", what)
	}
	return no
}

// 17.1, R2: each refusal alone and each two at once: it comes as Begin tells it, with no sequence.
func TestRefused(t *testing.T) {
	all := append(ofAccounts(), ofMessages()...)
	for i, first := range all {
		x := good()
		first.turn(x)
		refused(t, first.name, *x, first.want)
		for _, second := range all[i+1:] {
			x := good()
			second.turn(x)
			first.turn(x)
			refused(t, first.name+" and "+second.name, *x, first.want)
		}
	}
}

// 17.1, R3, R4: each refusal is new memory: the same call once more answers the same, though the first answer was written over.
func TestRefusalsAreNewMemory(t *testing.T) {
	for _, row := range append(ofAccounts(), ofMessages()...) {
		x := good()
		row.turn(x)
		for range 2 {
			no, other := refused(t, row.name, *x, row.want), refused(t, row.name, *x, row.want)
			if no == other {
				t.Fatalf("%s: twice the same memory", row.name)
			}
			for i := range no.Reject.Path {
				no.Reject.Path[i] += 1000
			}
			_ = append(no.Reject.Path, 7, 8)
			*no = exec.Refusal{Code: api.ErrLine, At: 99}
			if !alikeRefusals(*other, row.want) {
				t.Fatalf("%s: %+v", row.name, other)
			}
		}
	}
}

// 17.1: at each limit a message is taken: a sequence, and no error.
func TestAtTheLimits(t *testing.T) {
	for name, turn := range map[string]func(x *ask){
		"nothing":         func(x *ask) {},
		"gas":             func(x *ask) { x.m.Gas = api.MaxGas },
		"no gas":          func(x *ask) { x.m.Gas = 0 },
		"hashes":          func(x *ask) { x.b.Hashes = make([]api.Hash, api.MaxHashes) },
		"still":           func(x *ask) { x.m.Still = true },
		"value":           func(x *ask) { x.m.Value = n(100) },
		"a long init":     start(long(api.MaxInit)),
		"a long code":     lays(fitted(nil, nil, make([]byte, api.MaxDeploy-20), stop)),
		"nonce":           func(x *ask) { x.l[0].Nonce, x.m.Make = math.MaxUint64-1, true },
		"a balance there": func(x *ask) { x.taken(api.Account{Balance: n(7)}) },
		"the sum":         func(x *ask) { x.l[2].Balance = word.Not(n(103)) },
		"one account":     func(x *ask) { x.l = x.l[:1] },
		"no account":      func(x *ask) { x.l = nil },
		"an init of no use": func(x *ask) {
			x.m.Init = coded(stop)
		},
	} {
		x := good()
		turn(x)
		want, _ := x.byHand(t, api.Checked)
		alike(t, name, slices.Collect(x.followed(t)), want)
	}
}
