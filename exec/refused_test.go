package exec_test

import (
	"errors"
	"math"
	"slices"
	"strconv"
	"testing"

	"vouch/api"
	"vouch/call"
	"vouch/exec"
	"vouch/valid"
	"vouch/word"
)

// ask is what Execute and Begin are asked with.
type ask struct {
	l      []api.Account
	b      api.Block
	m      api.Message
	engine int
}

// good is one that is taken: A, B with code and slots, C; and a message that has what it needs to make an account, too.
func good(engine int) *ask {
	coder := at(b, 3, coded(stop))
	coder.Slots = []api.Slot{{Key: n(1), Value: n(5)}, {Key: n(2), Value: n(6)}, {Key: n(9), Value: n(1)}}
	m := from(5000)
	m.Init, m.Input = maker(), []byte{1, 2}
	return &ask{l: []api.Account{rich, coder, at(c, 9, nil)}, m: m, engine: engine}
}

// taken: an account stands where one is to be made.
func (x *ask) taken(l api.Account) {
	l.Address = call.Made(a, n(0))
	i := slices.IndexFunc(x.l, func(y api.Account) bool { return y.Address == l.Address })
	if i < 0 {
		x.l, i = append(x.l, l), len(x.l)
	}
	x.l[i] = l
	x.m.Make = true
}

// start: an account is to be made with this.
func start(code []byte) func(x *ask) {
	return func(x *ask) { x.m.Make, x.m.Init = true, code }
}

// lays: B has this code.
func lays(code []byte) func(x *ask) { return func(x *ask) { x.l[1].Code = code } }

// spoil is one thing for which a message is refused.
type spoil struct {
	name string
	want exec.Refusal
	turn func(x *ask)
}

// ofAccounts are those of the list, in their order.
func ofAccounts() []spoil {
	no := func(wrong api.Errno, at int) exec.Refusal { return exec.Refusal{Code: wrong, At: at} }
	slots := func(l ...api.Slot) func(x *ask) { return func(x *ask) { x.l[1].Slots = l } }
	all := word.Not(n(0))
	return []spoil{
		{"A is none", no(api.ErrEmpty, 0), func(x *ask) { x.l[0].Nonce, x.l[0].Balance = 0, n(0) }},
		{"A is bare", no(api.ErrBare, 0), func(x *ask) { x.l[0].Slots = []api.Slot{{Key: n(1), Value: n(1)}} }},
		{"B is A", no(api.ErrOrder, 1), func(x *ask) { x.l[1].Address = a }},
		{"B below A", no(api.ErrOrder, 1), func(x *ask) { x.l[1].Address = addr(9) }},
		{"B is bare", no(api.ErrBare, 1), lays(nil)},
		{"keys fall", no(api.ErrOrder, 1), slots(api.Slot{Key: n(2), Value: n(1)}, api.Slot{Key: n(1), Value: n(1)})},
		{"a key twice", no(api.ErrOrder, 1), slots(api.Slot{Key: n(2), Value: n(1)}, api.Slot{Key: n(2), Value: n(0)})},
		{"no slot", no(api.ErrEmpty, 1), slots(api.Slot{Key: n(2)})},
		{"no slot at the end", no(api.ErrEmpty, 1), slots(api.Slot{Key: n(2), Value: n(1)}, api.Slot{Key: n(3)})},
		{"a code of one byte", no(api.ErrCode, 1), lays([]byte{0})},
		{"a code that makes", no(api.ErrCode, 1), lays(maker())},
		{"a code that takes nothing away", no(api.ErrCode, 1), lays(raw("ef00010100040200010002ff000000008000005000"))},
		{"an open code", no(api.ErrCode, 1), lays(raw("ef00010100040200010001ff0002000080000000aa"))},
		{"a long code", no(api.ErrCode, 1), lays(fitted(nil, nil, make([]byte, api.MaxDeploy-19), stop))},
		{"C is B", no(api.ErrOrder, 2), func(x *ask) { x.l[2].Address = b }},
		{"C is none", no(api.ErrEmpty, 2), func(x *ask) { x.l[2].Balance, x.l[2].Code = n(0), nil }},
		{"C is bare", no(api.ErrBare, 2), func(x *ask) { x.l[2].Code, x.l[2].Slots = nil, []api.Slot{{Value: n(1)}} }},
		{"C's code", no(api.ErrCode, 2), func(x *ask) { x.l[2].Code = raw("ef0001") }},
		{"the sum up to B", no(api.ErrSum, 1), func(x *ask) { x.l[0].Balance, x.l[1].Balance = n(1), all }},
		{"the sum up to C", no(api.ErrSum, 2), func(x *ask) { x.l[2].Balance = all }},
	}
}

// ofStarts are those of the container to create with.
func ofStarts() []spoil {
	no := func(wrong api.Errno, section, at int, path ...int) exec.Refusal {
		return exec.Refusal{Code: api.ErrInit, Reject: api.Reject{Code: wrong, Path: path, Section: section, At: at}}
	}
	second := fitted([]api.Type{{}}, nest(coded(stop)), nil, join(raw("e30001"), deploys), raw("50 e4"))
	under := raw("ef00010100040200010002ff000000008000005000")
	inner := with(nest(coded(stop), with(nest(maker()), makes(0, 0, 0), drop, stop)), raw("36 e10004"), deploys, raw("5f 5f ee01"))
	deep := with(nest(coded(stop), with(nest(with(nest(under), deploys)), makes(0, 0, 0), drop, stop)), raw("36 e10004"), deploys, raw("5f 5f ee01"))
	cut := slices.Clone(inner)
	return []spoil{
		{"no init", no(api.ErrCut, 0, 0), start(nil)},
		{"an init of no container", no(api.ErrMagic, 0, 1), start(raw("efef"))},
		{"a runtime init", no(api.ErrBarred, 0, 0), start(coded(stop))},
		{"a runtime init that returns", no(api.ErrBarred, 0, 2), start(coded(raw("5f 5f f3")))},
		{"an init that takes nothing away", no(api.ErrUnder, 1, 0), start(second)},
		{"an init within", no(api.ErrUnder, 0, 0, 0), start(with(nest(under), deploys))},
		{"an init deep within", no(api.ErrUnder, 0, 0, 1, 0, 0), start(deep)},
		{"an init with bytes behind", no(api.ErrTail, 0, len(cut)), start(append(cut, 0))},
		{"a long init", exec.Refusal{Code: api.ErrInit}, start(long(api.MaxInit + 1))},
		{"a long init of no container", no(api.ErrMagic, 0, 0), start(make([]byte, api.MaxInit+1))},
		{"an open init", no(api.ErrCut, 0, 599), start(long(600)[:599])},
	}
}

// ofMessages are those of block, message and engine, in their order.
func ofMessages() []spoil {
	no := func(wrong api.Errno) exec.Refusal { return exec.Refusal{Code: wrong} }
	return slices.Concat([]spoil{
		{"engine 0", no(api.ErrArg), func(x *ask) { x.engine = 0 }},
		{"engine 3", no(api.ErrArg), func(x *ask) { x.engine = 3 }},
		{"engine -1", no(api.ErrArg), func(x *ask) { x.engine = -1 }},
		{"the greatest engine", no(api.ErrArg), func(x *ask) { x.engine = math.MaxInt }},
		{"gas", no(api.ErrArg), func(x *ask) { x.m.Gas = api.MaxGas + 1 }},
		{"all gas", no(api.ErrArg), func(x *ask) { x.m.Gas = math.MaxUint64 }},
		{"hashes", no(api.ErrBlock), func(x *ask) { x.b.Hashes = make([]api.Hash, api.MaxHashes+1) }},
		{"still, a value", no(api.ErrStill), func(x *ask) { x.m.Still, x.m.Value = true, n(1) }},
		{"still, an account", no(api.ErrStill), func(x *ask) { x.m.Still, x.m.Make = true, true }},
		{"funds", no(api.ErrFunds), func(x *ask) { x.m.Value = n(101) }},
		{"great funds", no(api.ErrFunds), func(x *ask) { x.m.Value = api.Word{0, 1} }},
	}, ofStarts(), []spoil{
		{"nonce", no(api.ErrTaken), func(x *ask) { x.l[0].Nonce, x.m.Make = math.MaxUint64, true }},
		{"taken by a nonce", no(api.ErrTaken), func(x *ask) { x.taken(api.Account{Nonce: 1}) }},
		{"taken by a code", no(api.ErrTaken), func(x *ask) { x.taken(at(a, 0, coded(stop))) }},
	})
}

// spoils are all of them, in their order.
func spoils() []spoil { return append(ofAccounts(), ofMessages()...) }

// refusals are what Execute and Begin refuse it for; the list stays as it was, and nothing else is told.
func (x ask) refusals(t testing.TB, what any) [2]error {
	t.Helper()
	was := copyOf(x.l)
	result, behind, err := exec.Execute(x.l, x.b, x.m, x.engine)
	s, other := exec.Begin(x.l, x.b, x.m, x.engine)
	if !alike(result, api.Result{}) || len(behind) != 0 || s != nil {
		t.Errorf("%v: beside an error %+v, %v, %v", what, result, behind, s)
	}
	if !same(x.l, was) {
		t.Errorf("%v: the list has changed", what)
	}
	return [2]error{err, other}
}

// alikeRefusals: they say the same.
func alikeRefusals(x, y exec.Refusal) bool {
	return x.Code == y.Code && x.At == y.At && alikeRejects(x.Reject, y.Reject)
}

func alikeRejects(x, y api.Reject) bool {
	return x.Code == y.Code && slices.Equal(x.Path, y.Path) && x.Section == y.Section && x.At == y.At
}

// refused: Execute and Begin refuse it so.
func refused(t testing.TB, what any, x ask, want exec.Refusal) {
	t.Helper()
	for i, err := range x.refusals(t, what) {
		no, is := err.(*exec.Refusal)
		if !is || no == nil || !alikeRefusals(*no, want) {
			t.Errorf("%v: by %d %+v, not %+v", what, i, err, want)
		}
	}
}

// 15.2, R2, W8: each refusal alone and each two at once, by either engine: the first one is told, and what belongs to it alone.
func TestRefused(t *testing.T) {
	all := spoils()
	for _, engine := range engines {
		for i, first := range all {
			x := good(engine)
			first.turn(x)
			refused(t, first.name, *x, first.want)
			for _, second := range all[i+1:] {
				x := good(engine)
				second.turn(x)
				first.turn(x)
				refused(t, first.name+" and "+second.name, *x, first.want)
			}
		}
	}
}

// 15.2: of ErrInit it is told what Validate says of Init; of another number nothing, though Init is no container either.
func TestReject(t *testing.T) {
	for _, engine := range engines {
		for _, row := range ofStarts() {
			x := good(engine)
			row.turn(x)
			if _, want := valid.Validate(x.m.Init, api.Init); !alikeRejects(want, row.want.Reject) {
				t.Fatalf("%s: %+v", row.name, want)
			}
			for _, other := range []spoil{
				{"hashes", exec.Refusal{Code: api.ErrBlock}, func(x *ask) { x.b.Hashes = make([]api.Hash, 257) }},
				{"the list", exec.Refusal{Code: api.ErrOrder, At: 2}, func(x *ask) { x.l[2].Address = api.Address{} }},
			} {
				x := good(engine)
				row.turn(x)
				other.turn(x)
				refused(t, row.name+" and "+other.name, *x, other.want)
			}
			// where nothing is made, it is not looked at
			x.m.Make = false
			if got, _ := executed(t, x.l, x.b, x.m, engine); got.Status != api.Done {
				t.Errorf("%s: %+v", row.name, got)
			}
		}
	}
}

// 15.2: what is wrong with the list comes ahead of an engine that is none, at any list; and an empty list is a world.
func TestEngineThatIsNone(t *testing.T) {
	for _, engine := range []int{0, 3, -1, -2, 4, 100, math.MinInt, math.MaxInt} {
		for _, row := range ofAccounts() {
			x := good(engine)
			row.turn(x)
			refused(t, row.name, *x, row.want)
		}
		for _, l := range [][]api.Account{nil, {}, {rich}} {
			for _, m := range []api.Message{{}, from(5), valued(101, 5), making(nil, 5), {Still: true, Make: true}} {
				refused(t, engine, ask{l: l, m: m, engine: engine}, exec.Refusal{Code: api.ErrArg})
			}
		}
	}
}

// 15.2: an empty list and no list: a message is taken where nothing is asked of an account, and refused where something is.
func TestNoAccounts(t *testing.T) {
	at1 := call.Made(a, n(0))
	fresh := api.Account{Address: at1, Nonce: 1, Code: coded(stop)}
	still := from(5)
	still.Still = true
	for _, engine := range engines {
		for _, l := range [][]api.Account{nil, {}, make([]api.Account, 0, 4), list(rich)[:0]} {
			for _, m := range []api.Message{from(5), still, {From: a, To: a, Gas: 5}} {
				got, behind := executed(t, l, api.Block{}, m, engine)
				wants(t, "nothing moves", got, api.Result{Status: api.Done, Left: 5}, behind, nil)
			}
			got, behind := executed(t, l, api.Block{}, making(maker(), 50000), engine)
			wants(t, "one is made", got, api.Result{Status: api.Done, Left: 50000 - 4 - 4000, Steps: 3, Made: at1}, behind, list(api.Account{Address: a, Nonce: 1}, fresh))
			refused(t, "funds", ask{l: l, m: valued(1, 5), engine: engine}, exec.Refusal{Code: api.ErrFunds})
			refused(t, "init", ask{l: l, m: making(nil, 5), engine: engine}, exec.Refusal{Code: api.ErrInit, Reject: api.Reject{Code: api.ErrCut}})
		}
	}
}

// 15.2: at each limit all is well: the error is nil, and no other value.
func TestAtTheLimits(t *testing.T) {
	for name, turn := range map[string]func(x *ask){
		"nothing":         func(x *ask) {},
		"gas":             func(x *ask) { x.m.Gas = api.MaxGas },
		"no gas":          func(x *ask) { x.m.Gas = 0 },
		"hashes":          func(x *ask) { x.b.Hashes = make([]api.Hash, api.MaxHashes) },
		"still":           func(x *ask) { x.m.Still = true },
		"value":           func(x *ask) { x.m.Value = n(100) },
		"a long init":     start(long(api.MaxInit)),
		"a long code":     lays(fitted(nil, nil, make([]byte, api.MaxDeploy-20), stop)),
		"nonce":           func(x *ask) { x.l[0].Nonce, x.m.Make = math.MaxUint64-1, true },
		"a balance there": func(x *ask) { x.taken(api.Account{Balance: n(7)}) },
		"the sum":         func(x *ask) { x.l[2].Balance = word.Not(n(103)) },
		"one account":     func(x *ask) { x.l = x.l[:1] },
	} {
		for _, engine := range engines {
			x := good(engine)
			turn(x)
			s, err := exec.Begin(x.l, x.b, x.m, engine)
			_, _, other := exec.Execute(x.l, x.b, x.m, engine)
			if err != nil || other != nil || s == nil {
				t.Errorf("%s: %v, %v", name, err, other)
			}
		}
	}
}

// 15.1: of every refusal: errors.Is with its number and with no other one, errors.As, Unwrap, and Error's text.
func TestRefusals(t *testing.T) {
	for _, engine := range engines {
		for _, row := range spoils() {
			x := good(engine)
			row.turn(x)
			for _, err := range x.refusals(t, row.name) {
				for i := range 300 {
					if e := api.Errno(i); errors.Is(err, e) != (e == row.want.Code) {
						t.Errorf("%s: is it %d: %v", row.name, i, errors.Is(err, e))
					}
				}
				var no *exec.Refusal
				if !errors.As(err, &no) || error(no) != err || !alikeRefusals(*no, row.want) {
					t.Errorf("%s: as %+v", row.name, no)
				}
				var code api.Errno
				if !errors.As(err, &code) || code != row.want.Code || errors.Unwrap(err) != error(row.want.Code) || no.Unwrap() != error(row.want.Code) {
					t.Errorf("%s: unwrapped %v", row.name, errors.Unwrap(err))
				}
				if want := "error " + strconv.Itoa(int(row.want.Code)); err.Error() != want {
					t.Errorf("%s: %q, not %q", row.name, err.Error(), want)
				}
			}
		}
	}
}

// 15.1: Unwrap and Error hang on the Code alone, whatever it is, and change nothing.
func TestRefusalOfAnyCode(t *testing.T) {
	for _, code := range []api.Errno{api.OK, 1, 999, -1, math.MaxInt, math.MinInt} {
		no := exec.Refusal{Code: code, At: 7, Reject: api.Reject{Code: api.ErrOpen, Path: []int{1, 2}, Section: 3, At: 4}}
		was := no
		was.Reject.Path = slices.Clone(no.Reject.Path)
		if no.Error() != code.Error() || no.Unwrap() != error(code) || !alikeRefusals(no, was) {
			t.Errorf("%d: %q, %v", code, no.Error(), no.Unwrap())
		}
	}
}

// 15.1, R3, R4: each refusal is new memory, its Path too: the same call once more answers the same, though the first answer was written over.
func TestRefusalsAreNewMemory(t *testing.T) {
	for _, engine := range engines {
		for _, row := range spoils() {
			x := good(engine)
			row.turn(x)
			for range 2 {
				first, second := x.refusals(t, row.name), x.refusals(t, row.name)
				all := []*exec.Refusal{first[0].(*exec.Refusal), first[1].(*exec.Refusal), second[0].(*exec.Refusal), second[1].(*exec.Refusal)}
				for i, no := range all {
					if slices.Index(all, no) != i || !alikeRefusals(*no, row.want) {
						t.Fatalf("%s: %d: %+v", row.name, i, no)
					}
					for j := range no.Reject.Path {
						no.Reject.Path[j] += 1000
					}
					_ = append(no.Reject.Path, 7, 8)
					*no = exec.Refusal{Code: api.ErrLine, At: 99}
				}
			}
		}
	}
}
