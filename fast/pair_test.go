package fast_test

import (
	"bytes"
	"fmt"
	"math"
	"math/rand/v2"
	"slices"
	"testing"

	"vouch/api"
	"vouch/world"
)

// drawing draws: the same in each run.
type drawing struct{ *rand.Rand }

func draw(seed uint64) drawing { return drawing{rand.New(rand.NewPCG(seed, 13))} }

func pick[T any](d drawing, l []T) T { return l[d.IntN(len(l))] }

func (d drawing) bytes(size int) []byte {
	b := make([]byte, size)
	for i := range b {
		b[i] = byte(d.Uint32())
	}
	return b
}

// addresses are those that are asked about; keys likewise.
func addresses() []api.Address {
	return []api.Address{{}, addr(1), addr(9), self, addr(11), addr(12), {0: 1}, {0: 0xff, 19: 10}}
}

func keys() []api.Word { return append(numbers(0, 1, 2, 5), top, power(64), power(255)) }

// word is mostly small, so that it may be a place, a length, a key, an address or a distance.
func (d drawing) word() api.Word {
	switch d.IntN(12) {
	case 0:
		return pick(d, keys())
	case 1:
		return addressWord(pick(d, addresses()))
	case 2:
		return api.Word{d.Uint64(), d.Uint64(), d.Uint64(), d.Uint64()}
	case 3:
		return n(uint64(d.IntN(700)))
	case 4:
		return pick(d, []api.Word{n(api.MaxMemory), n(api.MaxMemory - 31), n(api.MaxMemory + 1), n(1 << 32), power(160), less(31)})
	}
	return n(uint64(d.IntN(40)))
}

// alikeWorlds: do two worlds tell the same, of all accounts, logs, the refund, and of what is warm and transient at these addresses and keys? What asks in a way that changes is taken back.
func alikeWorlds(a, b *world.World, keys []api.Word) string {
	if a.Owed() != b.Owed() || a.Sum() != b.Sum() {
		return fmt.Sprintf("owed %d and %d, sum %x and %x", a.Owed(), b.Owed(), a.Sum(), b.Sum())
	}
	if !slices.EqualFunc(a.Logs(), b.Logs(), func(x, y api.Log) bool {
		return x.Address == y.Address && slices.Equal(x.Topics, y.Topics) && bytes.Equal(x.Data, y.Data)
	}) {
		return fmt.Sprintf("logs %x\nand %x", a.Logs(), b.Logs())
	}
	if !slices.EqualFunc(a.Accounts(), b.Accounts(), func(x, y api.Account) bool {
		return x.Address == y.Address && x.Nonce == y.Nonce && x.Balance == y.Balance && bytes.Equal(x.Code, y.Code) && slices.Equal(x.Slots, y.Slots)
	}) {
		return fmt.Sprintf("accounts %x\nand %x", a.Accounts(), b.Accounts())
	}
	first, second := a.Mark(), b.Mark()
	defer func() { a.Back(first); b.Back(second) }()
	if first != second {
		return "marks"
	}
	for _, x := range addresses() {
		if a.Warm(x) != b.Warm(x) {
			return fmt.Sprintf("warm %x", x)
		}
	}
	for _, k := range keys {
		if a.Get(self, k) != b.Get(self, k) || a.Original(self, k) != b.Original(self, k) || a.TGet(self, k) != b.TGet(self, k) || a.WarmSlot(self, k) != b.WarmSlot(self, k) {
			return fmt.Sprintf("slot %x", k)
		}
	}
	return ""
}

// pair is two runs that are to go alike.
type pair struct {
	t     *testing.T
	what  any
	a, b  side
	keys  []api.Word // beside the usual ones
	world bool       // the worlds too are held against each other at every moment
}

func (p *pair) fail(text string, l ...any) {
	p.t.Helper()
	p.t.Fatalf("%v:\n%s", p.what, fmt.Sprintf(text, l...))
}

// hold holds all that is told of the two against each other.
func (p *pair) hold() {
	p.t.Helper()
	x, xAsks := p.a.Asked()
	y, yAsks := p.b.Asked()
	if xAsks != yAsks || !alikeAsks(x, y) {
		p.fail("asked %+v, %v, not %+v, %v", x, xAsks, y, yAsks)
	}
	v, vEnded := p.a.Ended()
	u, uEnded := p.b.Ended()
	if vEnded != uEnded || !alikeEnds(v, u) {
		p.fail("ended %+v, %v, not %+v, %v", v, vEnded, u, uEnded)
	}
	if got, want := p.a.Sight(), p.b.Sight(); got != want || p.a.State() != p.b.State() || p.a.State() != got.State {
		p.fail("%+v, not %+v (%d, %d)", got, want, p.a.State(), p.b.State())
	}
	if p.world {
		p.holdWorlds()
	}
}

func (p *pair) holdWorlds() {
	p.t.Helper()
	all := append(rising(12), keys()...)
	if wrong := alikeWorlds(p.a.w, p.b.w, append(all, p.keys...)); wrong != "" {
		p.fail("two worlds: %s", wrong)
	}
}

// step lets both go so many steps.
func (p *pair) step(steps int) int {
	p.t.Helper()
	made := p.a.Go(steps)
	if want := p.b.Go(steps); made != want {
		p.fail("Go(%d): %d steps, not %d (%+v, %+v)", steps, made, want, p.a.Sight(), p.b.Sight())
	}
	return made
}

// give answers both, first in ways that may not be.
func (p *pair) give(x api.Reply) {
	p.t.Helper()
	asked, _ := p.b.Asked()
	for _, bad := range []api.Reply{{Status: -1}, {Status: 3}, {Status: math.MinInt}, {Left: asked.Gas + 1}, {Status: api.TookBack, Left: math.MaxUint64}, x} {
		got, want := p.a.Give(bad), p.b.Give(bad)
		if got != want {
			p.fail("Give(%+v): %v, not %v", bad, got, want)
		}
	}
	p.hold()
}

// reply draws an answer that may be given.
func (d drawing) reply(asked api.Ask) api.Reply {
	x := api.Reply{Status: d.IntN(3), Output: d.bytes(d.IntN(70)), Address: pick(d, addresses())}
	if asked.Gas > 0 {
		x.Left = pick(d, []uint64{0, asked.Gas, d.Uint64N(asked.Gas)})
	}
	return x
}

// answer gives both what is drawn, if they ask.
func (p *pair) answer(d drawing) {
	p.t.Helper()
	if asked, asks := p.b.Asked(); asks {
		p.give(d.reply(asked))
	} else if got, want := p.a.Give(api.Reply{}), p.b.Give(api.Reply{}); got != api.ErrAsked || want != api.ErrAsked {
		p.fail("Give where nothing was asked: %v, %v", got, want)
	}
}

// whole goes as far as it goes, in steps as drawn by most (1: step by step), but no more than so many; each step is told to see.
func (p *pair) whole(d drawing, piece, most int, see func()) {
	p.t.Helper()
	p.hold()
	for made := 0; made < most && p.b.State() != api.Ended; {
		p.answer(d)
		if see != nil {
			see()
		}
		steps := 1
		if piece > 1 {
			steps = d.IntN(piece) - 1
		}
		made += p.step(steps)
		p.hold()
	}
	p.holdWorlds()
}

// frame is one whose every field is drawn, of a container without sections.
func (d drawing) frame() *frame {
	x := &frame{
		accounts: []api.Account{
			{Address: addr(1), Nonce: 1},
			{Address: self, Balance: pick(d, []api.Word{n(7), {}, power(200)}), Nonce: pick(d, []uint64{1, 3, 1<<64 - 1})},
			{Address: addr(11), Balance: n(5), Code: least(0x00)},
			{Address: api.Address{0: 0xff, 19: 10}, Balance: n(1)},
		},
		begin: []api.Address{pick(d, addresses()), pick(d, addresses())},
		f: api.Frame{
			Self: self, Caller: pick(d, addresses()), Origin: addr(12), Value: d.word(), Price: d.word(),
			Input: d.bytes(d.IntN(80)), Gas: pick(d, []uint64{50, 3000, 30000, 200000, 3000000, api.MaxGas}),
			Still: d.IntN(5) == 0, Kind: pick(d, []int{api.Runtime, api.Init}), Depth: pick(d, []int{0, 5, 1022, 1023}),
			Block: api.Block{Number: uint64(d.IntN(30)), Time: d.Uint64(), Coinbase: pick(d, addresses()), Random: d.word(), Limit: d.Uint64(), Chain: d.word(), Base: d.word(), BlobBase: d.word()},
		},
	}
	if d.IntN(2) == 0 { // with slots
		x.accounts[1].Code = least(0xfe)
		x.accounts[1].Slots = []api.Slot{{Key: n(1), Value: n(9)}, {Key: n(5), Value: top}}
	}
	for range d.IntN(12) {
		x.f.Block.Hashes = append(x.f.Block.Hashes, api.Hash(d.bytes(32)))
	}
	for range d.IntN(4) {
		x.f.Blobs = append(x.f.Blobs, api.Hash(d.bytes(32)))
	}
	x.c.Data = d.bytes(d.IntN(80))
	x.c.Size = len(x.c.Data) + d.IntN(3)
	for range d.IntN(4) {
		x.c.Subs = append(x.c.Subs, pick(d, [][]byte{least(0xfe), sized(0x00, 3, 2), sized(0xfe, 40, 40), {0xef}, least(0x00)[:19]}))
	}
	return x
}

// validFrame is a frame of a valid container.
func (d drawing) validFrame() *frame {
	x := d.frame()
	x.c = d.container(x.f.Kind, true, false)
	if d.IntN(3) > 0 {
		x.f.Gas = api.MaxGas
	}
	return x
}

// instruction writes any instruction, mostly one that can be done: with the words that it takes ahead of it.
func (d drawing) instruction() []byte {
	row, there := table[d.IntN(256)]
	if !there && d.IntN(20) > 0 {
		return nil
	}
	if !there {
		return []byte{byte(pick(d, []int{0x0c, 0x21, 0x38, 0x56, 0xa5, 0xef, 0xff}))}
	}
	if row.name == "STOP" || row.cost == 0 && d.IntN(3) > 0 {
		return nil
	}
	size := max(row.imm, 1)
	imm := d.bytes(size)
	switch row.name {
	case "RJUMP", "RJUMPI":
		imm = []byte{0, byte(d.IntN(3))}
		if d.IntN(4) == 0 {
			imm = []byte{0xff, byte(0xff - d.IntN(60))}
		}
	case "RJUMPV":
		imm = []byte{byte(d.IntN(3))}
		for range int(imm[0]) + 1 {
			imm = append(imm, 0, byte(d.IntN(3)))
		}
	case "CALLF", "JUMPF", "DATALOADN":
		imm = []byte{0, byte(d.IntN(4))}
	case "DUPN", "SWAPN", "EXCHANGE", "EOFCREATE", "RETURNCODE":
		imm = []byte{byte(d.IntN(4))}
	default:
		imm = imm[:row.imm]
	}
	takes, _ := row.needs(imm)
	if takes > 0 && d.IntN(30) == 0 {
		takes--
	}
	var ahead []api.Word
	for range takes {
		ahead = append(ahead, d.word())
	}
	code := slices.Concat(pushed(ahead...), []byte{byte(row.code)}, imm)
	if row.imm < 0 || row.name == "RJUMP" || row.name == "RJUMPI" {
		code = append(code, 0x5b, 0x5b, 0x5b) // for the jump to lead to
	}
	return code
}

// program is a frame whose sections are any instructions, and then a dump of a few words.
func (d drawing) program() *frame {
	x := d.frame()
	for s := range 1 + d.IntN(3) {
		var code []byte
		for range 1 + d.IntN(9) {
			code = append(code, d.instruction()...)
		}
		tails := [][]byte{dump(d.IntN(4)), dump(d.IntN(4)), dump(0), {0x00}, slices.Concat(pushed(n(0), n(uint64(d.IntN(5)))), []byte{0xee, byte(d.IntN(2))}), {}}
		if s > 0 {
			tails = append(tails, []byte{0xe4}, []byte{0xe4}, []byte{0xe4})
		}
		code = append(code, pick(d, tails)...)
		t := api.Type{Out: never, Most: d.IntN(8)}
		if s > 0 {
			t = api.Type{In: d.IntN(3), Out: pick(d, []int{0, 1, 2, 127, never}), Most: pick(d, []int{0, 3, 500, 1023})}
		}
		x.section(t, append(code, 0x5f)[:max(len(code), 1)])
	}
	return x
}
