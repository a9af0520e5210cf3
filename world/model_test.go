package world_test

import (
	"fmt"
	"hash/crc32"
	"maps"
	"math/big"
	"math/rand/v2"
	"slices"
	"strings"
	"testing"

	"vouch/api"
	"vouch/valid"
	"vouch/world"
)

// asked is all that a world can be asked: so that one row of calls can be made at a world and at the model.
type asked interface {
	Accounts() []api.Account
	Sum() api.Word
	Begin(warm ...api.Address)
	Is(a api.Address) bool
	Balance(a api.Address) api.Word
	Nonce(a api.Address) uint64
	Code(a api.Address) (*valid.Code, bool)
	Move(from, to api.Address, v api.Word) api.Errno
	Take(a api.Address, v api.Word) api.Errno
	Put(a api.Address, v api.Word) api.Errno
	Raise(a api.Address) api.Errno
	Make(a api.Address) api.Errno
	Lay(a api.Address, c *valid.Code) api.Errno
	Get(a api.Address, key api.Word) api.Word
	Set(a api.Address, key, v api.Word)
	Original(a api.Address, key api.Word) api.Word
	TGet(a api.Address, key api.Word) api.Word
	TSet(a api.Address, key, v api.Word)
	Warm(a api.Address) bool
	WarmSlot(a api.Address, key api.Word) bool
	Tell(x api.Log)
	Logs() []api.Log
	Owe(n int) api.Errno
	Owed() int
	Mark() int
	Back(mark int) api.Errno
	Forget(mark int) api.Errno
}

var _ asked = (*world.World)(nil)
var _ asked = (*model)(nil)

// spot is a slot of an address.
type spot struct {
	a api.Address
	k api.Word
}

// state is all that goes back to a mark. Numbers are plain ones that have no bound; what is not in a map is 0.
type state struct {
	nonces, balances map[api.Address]*big.Int
	codes            map[api.Address]*valid.Code
	slots, transient map[spot]api.Word
	warm             map[api.Address]bool
	warmSlots        map[spot]bool
	logs             []api.Log
	refund           *big.Int
}

func (s state) copied() state {
	return state{
		maps.Clone(s.nonces), maps.Clone(s.balances), maps.Clone(s.codes), maps.Clone(s.slots), maps.Clone(s.transient),
		maps.Clone(s.warm), maps.Clone(s.warmSlots), slices.Clone(s.logs), s.refund,
	}
}

// The model: plain maps, of which each mark keeps a whole copy, and the originals another one.
type model struct {
	state
	marks     []state
	originals map[spot]api.Word
}

// newModel is the model of a list that is a world.
func newModel(l []api.Account) *model {
	m := &model{state: state{
		nonces: map[api.Address]*big.Int{}, balances: map[api.Address]*big.Int{}, codes: map[api.Address]*valid.Code{},
		slots: map[spot]api.Word{},
	}}
	for _, x := range l {
		m.nonces[x.Address], m.balances[x.Address] = new(big.Int).SetUint64(x.Nonce), numberOf(x.Balance)
		if len(x.Code) > 0 {
			m.codes[x.Address], _ = valid.Validate(x.Code, api.Runtime)
		}
		for _, s := range x.Slots {
			m.slots[spot{x.Address, s.Key}] = s.Value
		}
	}
	m.Begin()
	return m
}

func (m *model) Begin(warm ...api.Address) {
	m.transient, m.warm, m.warmSlots = map[spot]api.Word{}, map[api.Address]bool{}, map[spot]bool{}
	m.logs, m.refund, m.marks = nil, new(big.Int), nil
	m.originals = maps.Clone(m.slots)
	for _, a := range warm {
		m.warm[a] = true
	}
}

func number(l map[api.Address]*big.Int, a api.Address) *big.Int {
	if n := l[a]; n != nil {
		return n
	}
	return new(big.Int)
}

func (m *model) Is(a api.Address) bool {
	return number(m.nonces, a).Sign() != 0 || number(m.balances, a).Sign() != 0 || m.codes[a] != nil
}

func (m *model) Accounts() []api.Account {
	all := map[api.Address]bool{}
	for a := range m.nonces {
		all[a] = true
	}
	for a := range m.balances {
		all[a] = true
	}
	for a := range m.codes {
		all[a] = true
	}
	var l []api.Account
	for a := range all {
		if m.Is(a) {
			l = append(l, m.account(a))
		}
	}
	slices.SortFunc(l, func(x, y api.Account) int { return addressNumber(x.Address).Cmp(addressNumber(y.Address)) })
	return l
}

func (m *model) account(a api.Address) api.Account {
	x := api.Account{Address: a, Nonce: m.Nonce(a), Balance: m.Balance(a)}
	if m.codes[a] == nil {
		return x
	}
	x.Code = m.codes[a].Bytes()
	for s, v := range m.slots {
		if s.a == a && v != (api.Word{}) {
			x.Slots = append(x.Slots, api.Slot{Key: s.k, Value: v})
		}
	}
	slices.SortFunc(x.Slots, func(s, o api.Slot) int { return numberOf(s.Key).Cmp(numberOf(o.Key)) })
	return x
}

func (m *model) sum() *big.Int {
	sum := new(big.Int)
	for _, n := range m.balances {
		sum.Add(sum, n)
	}
	return sum
}

func (m *model) Sum() api.Word { return wordOf(m.sum()) }

func (m *model) Balance(a api.Address) api.Word { return wordOf(number(m.balances, a)) }

func (m *model) Nonce(a api.Address) uint64 { return number(m.nonces, a).Uint64() }

func (m *model) Code(a api.Address) (*valid.Code, bool) { return m.codes[a], m.codes[a] != nil }

func (m *model) more(a api.Address, n *big.Int) {
	m.balances[a] = new(big.Int).Add(number(m.balances, a), n)
}

func (m *model) Move(from, to api.Address, v api.Word) api.Errno {
	if e := m.Take(from, v); e != api.OK {
		return e
	}
	m.more(to, numberOf(v))
	return api.OK
}

func (m *model) Take(a api.Address, v api.Word) api.Errno {
	if number(m.balances, a).Cmp(numberOf(v)) < 0 {
		return api.ErrFunds
	}
	m.more(a, new(big.Int).Neg(numberOf(v)))
	return api.OK
}

func (m *model) Put(a api.Address, v api.Word) api.Errno {
	if sum := m.sum(); sum.Add(sum, numberOf(v)).BitLen() > 256 {
		return api.ErrSum
	}
	m.more(a, numberOf(v))
	return api.OK
}

func (m *model) Raise(a api.Address) api.Errno {
	next := new(big.Int).Add(number(m.nonces, a), big.NewInt(1))
	if next.BitLen() > 64 {
		return api.ErrTaken
	}
	m.nonces[a] = next
	return api.OK
}

func (m *model) Make(a api.Address) api.Errno {
	if number(m.nonces, a).Sign() != 0 || m.codes[a] != nil {
		return api.ErrTaken
	}
	m.nonces[a] = big.NewInt(1)
	return api.OK
}

func (m *model) Lay(a api.Address, c *valid.Code) api.Errno {
	switch {
	case c == nil:
		return api.ErrArg
	case c.Kind() != api.Runtime, len(c.Bytes()) > 24576:
		return api.ErrCode
	case m.codes[a] != nil:
		return api.ErrTaken
	}
	m.codes[a] = c
	return api.OK
}

func (m *model) Get(a api.Address, key api.Word) api.Word { return m.slots[spot{a, key}] }

func (m *model) Set(a api.Address, key, v api.Word) { m.slots[spot{a, key}] = v }

func (m *model) Original(a api.Address, key api.Word) api.Word { return m.originals[spot{a, key}] }

func (m *model) TGet(a api.Address, key api.Word) api.Word { return m.transient[spot{a, key}] }

func (m *model) TSet(a api.Address, key, v api.Word) { m.transient[spot{a, key}] = v }

func (m *model) Warm(a api.Address) bool {
	was := m.warm[a]
	m.warm[a] = true
	return was
}

func (m *model) WarmSlot(a api.Address, key api.Word) bool {
	was := m.warmSlots[spot{a, key}]
	m.warmSlots[spot{a, key}] = true
	return was
}

func (m *model) Tell(x api.Log) { m.logs = append(m.logs, logCopy(x)) }

func (m *model) Logs() []api.Log { return slices.Clone(m.logs) }

func (m *model) Owe(n int) api.Errno {
	next := new(big.Int).Add(m.refund, big.NewInt(int64(n)))
	if next.Sign() < 0 || next.Cmp(new(big.Int).Lsh(big.NewInt(1), 62)) > 0 {
		return api.ErrArg
	}
	m.refund = next
	return api.OK
}

func (m *model) Owed() int { return int(m.refund.Int64()) }

func (m *model) Mark() int {
	m.marks = append(m.marks, m.copied())
	return len(m.marks) - 1
}

func (m *model) Back(mark int) api.Errno {
	if mark < 0 || mark >= len(m.marks) {
		return api.ErrMark
	}
	m.state, m.marks = m.marks[mark], m.marks[:mark]
	return api.OK
}

func (m *model) Forget(mark int) api.Errno {
	if mark < 0 || mark >= len(m.marks) {
		return api.ErrMark
	}
	m.marks = m.marks[:mark]
	return api.OK
}

func numberOf(x api.Word) *big.Int {
	n := new(big.Int)
	for _, part := range slices.Backward(x[:]) {
		n.Lsh(n, 64).Or(n, new(big.Int).SetUint64(part))
	}
	return n
}

// wordOf is n as a word, modulo 2^256.
func wordOf(n *big.Int) api.Word {
	n = new(big.Int).Mod(n, power(256))
	var x api.Word
	for i := range x {
		x[i] = new(big.Int).Rsh(n, uint(64*i)).Uint64()
	}
	return x
}

func power(bits uint) *big.Int { return new(big.Int).Lsh(big.NewInt(1), bits) }

func addressNumber(a api.Address) *big.Int { return new(big.Int).SetBytes(a[:]) }

func logCopy(x api.Log) api.Log {
	return api.Log{Address: x.Address, Topics: slices.Clone(x.Topics), Data: slices.Clone(x.Data)}
}

// n is a small number as a word.
func n(x uint64) api.Word { return api.Word{x} }

// below is the word 2^256 - x.
func below(x int64) api.Word { return wordOf(new(big.Int).Sub(power(256), big.NewInt(x))) }

// full is the address of twenty bytes x.
func full(x byte) api.Address {
	var a api.Address
	for i := range a {
		a[i] = x
	}
	return a
}

// with is the address with another byte at a place.
func with(a api.Address, at int, b byte) api.Address {
	a[at] = b
	return a
}

// addresses are those that are asked about: many differ in one byte alone.
func addresses() []api.Address {
	one := full(1)
	return []api.Address{{}, one, with(one, 0, 2), with(one, 19, 2), with(one, 9, 0), with(api.Address{}, 19, 1), full(0xff)}
}

// keys are those that are asked about: many differ in one part alone.
func keys() []api.Word {
	return []api.Word{{}, {1}, {0, 1}, {0, 0, 1}, {0, 0, 0, 1}, {7, 7, 7, 7}, {7, 7, 8, 7}, below(1)}
}

// stop is the bytes of a container that does nothing, with so many bytes of data.
func stop(data int) []byte {
	b := []byte{0xef, 0, 1, 1, 0, 4, 2, 0, 1, 0, 1, 0xff, byte(data >> 8), byte(data), 0, 0, 0x80, 0, 0, 0}
	for i := range data {
		b = append(b, byte(i))
	}
	return b
}

// long is such bytes, so many.
func long(bytes int) []byte { return stop(bytes - len(stop(0))) }

// invalid is a container whose one instruction is INVALID: it is valid as either kind.
func invalid() []byte {
	b := stop(0)
	b[len(b)-1] = 0xfe
	return b
}

// maker is a container that is valid as Init alone: it lays the one that is nested in it.
func maker() []byte {
	inner := stop(0)
	b := []byte{0xef, 0, 1, 1, 0, 4, 2, 0, 1, 0, 4, 3, 0, 1, 0, 0, 0, byte(len(inner)), 0xff, 0, 0, 0, 0, 0x80, 0, 2, 0x5f, 0x5f, 0xee, 0}
	return append(b, inner...)
}

// parent is a container that is valid as Runtime, and makes an account with the one that is nested in it.
func parent() []byte {
	inner := maker()
	b := []byte{0xef, 0, 1, 1, 0, 4, 2, 0, 1, 0, 7, 3, 0, 1, 0, 0, 0, byte(len(inner)), 0xff, 0, 0, 0, 0, 0x80, 0, 4, 0x5f, 0x5f, 0x5f, 0x5f, 0xec, 0, 0}
	return append(b, inner...)
}

// codeOf is the code of bytes that are known to be valid.
func codeOf(b []byte, kind int) *valid.Code {
	c, no := valid.Validate(b, kind)
	if no.Code != api.OK {
		panic(no)
	}
	return c
}

// codes are those that are drawn: some may not be laid.
func codes() []*valid.Code {
	laid, e := codeOf(maker(), api.Init).Lay(0, []byte{8, 9})
	if e != api.OK {
		panic(e)
	}
	return []*valid.Code{nil, codeOf(stop(0), api.Runtime), codeOf(stop(3), api.Runtime), codeOf(parent(), api.Runtime), laid, codeOf(maker(), api.Init), codeOf(invalid(), api.Init), codeOf(invalid(), api.Runtime)}
}

// codeText is a code in few letters.
func codeText(b []byte) string {
	return fmt.Sprintf("code of %d %08x", len(b), crc32.ChecksumIEEE(b))
}

func accountText(x api.Account) string {
	return fmt.Sprintf("%x %d %x %s %x\n", x.Address, x.Nonce, x.Balance, codeText(x.Code), x.Slots)
}

func accountsText(l []api.Account) string {
	var b strings.Builder
	for _, x := range l {
		b.WriteString(accountText(x))
	}
	return b.String()
}

func logsText(l []api.Log) string { return fmt.Sprintf("%d %x", len(l), l) }

// told is all that can be asked without a change.
func told(x asked) string {
	var b strings.Builder
	fmt.Fprintf(&b, "%ssum %x owed %d logs %s\n", accountsText(x.Accounts()), x.Sum(), x.Owed(), logsText(x.Logs()))
	for _, a := range addresses() {
		c, ok := x.Code(a)
		text := "none"
		if c != nil {
			text = codeText(c.Bytes())
		}
		fmt.Fprintf(&b, "%x: %v %x %d %s %v\n", a, x.Is(a), x.Balance(a), x.Nonce(a), text, ok)
		for _, k := range keys() {
			fmt.Fprintf(&b, "  %x: %x, at first %x, transient %x\n", k, x.Get(a, k), x.Original(a, k), x.TGet(a, k))
		}
	}
	return b.String()
}

// warmth is what is warm: it is asked behind a mark, and taken back.
func warmth(x asked) string {
	var b strings.Builder
	m := x.Mark()
	for _, a := range addresses() {
		fmt.Fprintf(&b, "%v ", x.Warm(a))
		for _, k := range keys() {
			fmt.Fprintf(&b, "%v ", x.WarmSlot(a, k))
		}
	}
	fmt.Fprintf(&b, "mark %d: %d", m, x.Back(m))
	return b.String()
}

// hold holds all that two tell against each other.
func hold(t *testing.T, row string, got, want asked) {
	t.Helper()
	if g, w := told(got), told(want); g != w {
		t.Fatalf("behind %s:\n%s\nnot\n%s", row, g, w)
	}
}

// drawing draws: the same in each run.
type drawing struct{ *rand.Rand }

func draw(seed uint64) drawing { return drawing{rand.New(rand.NewPCG(seed, 11))} }

func pick[T any](d drawing, l []T) T { return l[d.IntN(len(l))] }

func (d drawing) address() api.Address { return pick(d, addresses()) }

func (d drawing) key() api.Word { return pick(d, keys()) }

// value is 0, or small, or one of the greatest, or of any length.
func (d drawing) value() api.Word {
	switch d.IntN(6) {
	case 0:
		return api.Word{}
	case 1:
		return below(d.Int64N(6) + 1)
	case 2:
		return api.Word{d.Uint64(), d.Uint64(), d.Uint64(), d.Uint64()}
	}
	return n(d.Uint64N(9))
}

// made is a world of a list, which is one.
func made(t testing.TB, l ...api.Account) *world.World {
	t.Helper()
	w, e, at := world.New(l)
	if w == nil || e != api.OK || at != 0 {
		t.Fatalf("New: %v, %d, %d", w, e, at)
	}
	return w
}

// both are a world and the model of one list.
func both(t testing.TB, l ...api.Account) (*world.World, *model) {
	t.Helper()
	return made(t, l...), newModel(l)
}

// wide is a list with every kind of account.
func wide() []api.Account {
	a := addresses()
	l := []api.Account{
		{Address: a[0], Balance: n(5)},
		{Address: a[1], Nonce: 1<<64 - 2, Code: stop(0), Slots: []api.Slot{{Key: keys()[0], Value: n(1)}, {Key: keys()[1], Value: n(2)}, {Key: keys()[4], Value: below(1)}}},
		{Address: a[2], Nonce: 3, Balance: api.Word{0, 0, 0, 1}, Code: parent()},
		{Address: a[5], Nonce: 1},
		{Address: a[6], Code: stop(3), Balance: n(1), Slots: []api.Slot{{Key: keys()[7], Value: n(9)}}},
	}
	slices.SortFunc(l, func(x, y api.Account) int { return addressNumber(x.Address).Cmp(addressNumber(y.Address)) })
	return l
}

func wantErrno(t *testing.T, row string, got, want api.Errno) {
	t.Helper()
	if got != want {
		t.Errorf("%s: %d, not %d", row, got, want)
	}
}

func wantAccounts(t *testing.T, row string, x asked, want ...api.Account) {
	t.Helper()
	if got := accountsText(x.Accounts()); got != accountsText(want) {
		t.Errorf("%s: accounts\n%snot\n%s", row, got, accountsText(want))
	}
}
