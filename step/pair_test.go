package step_test

import (
	"maps"
	"math/rand/v2"
	"slices"
	"testing"

	"vouch/api"
	"vouch/step"
	"vouch/world"
)

// drawing draws: the same in each run.
type drawing struct{ *rand.Rand }

func draw(seed uint64) drawing { return drawing{rand.New(rand.NewPCG(seed, 12))} }

func pick[T any](d drawing, l []T) T { return l[d.IntN(len(l))] }

func (d drawing) bytes(size int) []byte {
	b := make([]byte, size)
	for i := range b {
		b[i] = byte(d.Uint32())
	}
	return b
}

// word is mostly small, so that it may be a place, a length, a key, an address or a distance.
func (d drawing) word() api.Word {
	switch d.IntN(12) {
	case 0:
		return pick(d, keys())
	case 1:
		return addressWord(pick(d, addresses()))
	case 2:
		return api.Word{d.Uint64(), d.Uint64(), d.Uint64(), d.Uint64()}
	case 3:
		return n(uint64(d.IntN(700)))
	case 4:
		return pick(d, []api.Word{n(api.MaxMemory), n(api.MaxMemory - 31), n(api.MaxMemory + 1), n(1 << 32), power(160), less(31)})
	}
	return n(uint64(d.IntN(40)))
}

// pair is a run and a model of the same frame, over worlds that are alike.
type pair struct {
	t *testing.T
	x *frame
	r *step.Run
	w *world.World
	m *model
}

func (x *frame) paired(t *testing.T) *pair {
	t.Helper()
	r, w := x.begun(t)
	return &pair{t: t, x: x, r: r, w: w, m: newModel(x.made(t), x.c, x.f)}
}

// hold holds all that is told of the two against each other.
func (p *pair) hold() {
	p.t.Helper()
	if got, want := p.r.Sight(), p.m.sight(); got != want || p.r.State() != want.State {
		e, _ := p.r.Ended()
		p.t.Fatalf("%v:\n%+v %+v, not\n%+v %+v", p.x, got, e, want, p.m.end)
	}
	if got, ok := p.r.Asked(); ok != (p.m.state == api.Asking) || !alikeAsks(got, p.m.ask) {
		p.t.Fatalf("%v: asked %+v, %v, not %+v", p.x, got, ok, p.m.ask)
	}
	if got, ok := p.r.Ended(); ok != (p.m.state == api.Ended) || !alikeEnds(got, p.m.end) {
		p.t.Fatalf("%v: ended %+v, %v, not %+v", p.x, got, ok, p.m.end)
	}
}

// holdWorlds holds the worlds against each other, at the keys too that the run has named.
func (p *pair) holdWorlds() {
	p.t.Helper()
	all := append(keys(), slices.Collect(maps.Keys(p.m.asked))...)
	if got, want := worldText(p.w, addresses(), all), worldText(p.m.w, addresses(), all); got != want {
		p.t.Fatalf("%v:\n%s\nnot\n%s", p.x, got, want)
	}
}

// step makes one step on both.
func (p *pair) step() {
	p.t.Helper()
	going := p.m.state == api.Going
	if going {
		p.m.step()
	}
	if made := p.r.Go(1); made == 1 != going {
		p.t.Fatalf("%v: %d steps made", p.x, made)
	}
	p.hold()
}

// give answers both.
func (p *pair) give(x api.Reply) {
	p.t.Helper()
	if wrong := p.r.Give(x); wrong != api.OK {
		p.t.Fatalf("%v: Give(%+v): %v", p.x, x, wrong)
	}
	p.m.give(x)
	p.hold()
}

// reply draws an answer that may be given.
func (d drawing) reply(asked api.Ask) api.Reply {
	x := api.Reply{Status: d.IntN(3), Output: d.bytes(d.IntN(70)), Address: pick(d, addresses())}
	if asked.Gas > 0 {
		x.Left = pick(d, []uint64{0, asked.Gas, d.Uint64N(asked.Gas)})
	}
	return x
}

// whole goes as far as it goes, step by step, but no more than so many.
func (p *pair) whole(d drawing, most int) {
	p.t.Helper()
	p.hold()
	for range most {
		if p.m.state == api.Asking {
			p.give(d.reply(p.m.ask))
		}
		if p.m.state == api.Ended {
			break
		}
		p.step()
	}
	p.holdWorlds()
}

// frame is one whose every field is drawn, of a container without sections.
func (d drawing) frame() *frame {
	x := &frame{
		accounts: []api.Account{
			{Address: addr(1), Nonce: 1},
			{Address: self, Balance: pick(d, []api.Word{n(7), {}, power(200)}), Nonce: pick(d, []uint64{1, 3, 1<<64 - 1})},
			{Address: addr(11), Balance: n(5), Code: least(0x00)},
			{Address: api.Address{0: 0xff, 19: 10}, Balance: n(1)},
		},
		begin: []api.Address{pick(d, addresses()), pick(d, addresses())},
		f: api.Frame{
			Self: self, Caller: pick(d, addresses()), Origin: addr(12), Value: d.word(), Price: d.word(),
			Input: d.bytes(d.IntN(80)), Gas: pick(d, []uint64{50, 3000, 30000, 200000, 3000000, api.MaxGas}),
			Still: d.IntN(5) == 0, Kind: pick(d, []int{api.Runtime, api.Init}), Depth: pick(d, []int{0, 5, 1022, 1023}),
			Block: api.Block{Number: uint64(d.IntN(30)), Time: d.Uint64(), Coinbase: pick(d, addresses()), Random: d.word(), Limit: d.Uint64(), Chain: d.word(), Base: d.word(), BlobBase: d.word()},
		},
	}
	if d.IntN(2) == 0 { // with slots
		x.accounts[1].Code = least(0xfe)
		x.accounts[1].Slots = []api.Slot{{Key: n(1), Value: n(9)}, {Key: n(5), Value: top}}
	}
	for range d.IntN(12) {
		x.f.Block.Hashes = append(x.f.Block.Hashes, api.Hash(d.bytes(32)))
	}
	for range d.IntN(4) {
		x.f.Blobs = append(x.f.Blobs, api.Hash(d.bytes(32)))
	}
	x.c.Data = d.bytes(d.IntN(80))
	x.c.Size = len(x.c.Data) + d.IntN(3)
	for range d.IntN(4) {
		x.c.Subs = append(x.c.Subs, pick(d, [][]byte{least(0xfe), sized(0x00, 3, 2), sized(0xfe, 40, 40), {0xef}, least(0x00)[:19]}))
	}
	return x
}

// instruction writes any instruction, mostly one that can be done: with the words that it takes ahead of it.
func (d drawing) instruction() []byte {
	row, there := table[d.IntN(256)]
	if !there && d.IntN(20) > 0 {
		return nil
	}
	if !there {
		return []byte{byte(pick(d, []int{0x0c, 0x21, 0x38, 0x56, 0xa5, 0xef, 0xff}))}
	}
	if row.name == "STOP" || row.cost == 0 && d.IntN(3) > 0 {
		return nil
	}
	size := max(row.imm, 1)
	imm := d.bytes(size)
	switch row.name {
	case "RJUMP", "RJUMPI":
		imm = []byte{0, byte(d.IntN(3))}
		if d.IntN(4) == 0 {
			imm = []byte{0xff, byte(0xff - d.IntN(60))}
		}
	case "RJUMPV":
		imm = []byte{byte(d.IntN(3))}
		for range int(imm[0]) + 1 {
			imm = append(imm, 0, byte(d.IntN(3)))
		}
	case "CALLF", "JUMPF", "DATALOADN":
		imm = []byte{0, byte(d.IntN(4))}
	case "DUPN", "SWAPN", "EXCHANGE", "EOFCREATE", "RETURNCODE":
		imm = []byte{byte(d.IntN(4))}
	default:
		imm = imm[:row.imm]
	}
	takes, _ := row.needs(imm)
	if takes > 0 && d.IntN(30) == 0 {
		takes--
	}
	var ahead []api.Word
	for range takes {
		ahead = append(ahead, d.word())
	}
	code := slices.Concat(pushed(ahead...), []byte{byte(row.code)}, imm)
	if row.imm < 0 || row.name == "RJUMP" || row.name == "RJUMPI" {
		code = append(code, 0x5b, 0x5b, 0x5b) // for the jump to lead to
	}
	return code
}

// program is a frame whose sections are any instructions, and then a dump of a few words.
func (d drawing) program() *frame {
	x := d.frame()
	for s := range 1 + d.IntN(3) {
		var code []byte
		for range 1 + d.IntN(9) {
			code = append(code, d.instruction()...)
		}
		tails := [][]byte{dump(d.IntN(4)), dump(d.IntN(4)), dump(0), {0x00}, slices.Concat(pushed(n(0), n(uint64(d.IntN(5)))), []byte{0xee, byte(d.IntN(2))}), {}}
		if s > 0 {
			tails = append(tails, []byte{0xe4}, []byte{0xe4}, []byte{0xe4})
		}
		code = append(code, pick(d, tails)...)
		t := api.Type{Out: never, Most: d.IntN(8)}
		if s > 0 {
			t = api.Type{In: d.IntN(3), Out: pick(d, []int{0, 1, 2, 127, never}), Most: pick(d, []int{0, 3, 500, 1023})}
		}
		x.section(t, append(code, 0x5f)[:max(len(code), 1)])
	}
	return x
}

// The machine, 12.2 to 12.7, over drawn programs: the run and the model go alike, step by step, and so do their worlds; and every instruction, every halt and every fault is met.
func TestDrawnPrograms(t *testing.T) {
	d := draw(1)
	met := map[string]int{}
	ends := map[int]int{}
	for range 12000 {
		p := d.program().paired(t)
		p.whole(d, 400)
		for name, times := range p.m.met {
			met[name] += times
		}
		ends[p.m.end.Kind]++
		ends[1000+p.m.end.Why]++
	}
	for _, row := range table {
		if met[row.name] < 10 {
			t.Errorf("%s was done %d times", row.name, met[row.name])
		}
	}
	for _, end := range []int{api.EndStop, api.EndReturn, api.EndDeploy, api.EndRevert, api.EndHalt, api.EndFault} {
		if ends[end] < 10 {
			t.Errorf("the end %d was told %d times", end, ends[end])
		}
	}
	for _, why := range []int{api.HaltGas, api.HaltStill, api.HaltAddress, api.HaltDeploy, api.HaltInvalid, api.FaultPlace, api.FaultOpcode, api.FaultUnder, api.FaultTarget, api.FaultSection, api.FaultReturn, api.FaultData, api.FaultSub} {
		if ends[1000+why] < 10 {
			t.Errorf("%d was told %d times", why, ends[1000+why])
		}
	}
}
