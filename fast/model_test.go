package fast_test

import (
	"math/big"
	"slices"
	"strings"

	"vouch/api"
	"vouch/container"
	"vouch/sponge"
	"vouch/word"
	"vouch/world"
)

// model is the bare machine once more, as DOC.md and 13.7 tell it: plain numbers, stacks that are maps of places to what was put there, bytes that are asked for one by one, one long tale of what each instruction does.
type model struct {
	w       *world.World
	c       api.Container
	f       api.Frame
	left    int
	words   map[int]api.Word // by the word's number modulo MaxStack
	height  int
	returns map[int]api.Place // likewise
	places  int
	memory  []byte
	back    []byte // the return data
	place   api.Place
	next    api.Place
	state   int
	ask     api.Ask
	end     api.Ending
	asked   map[api.Word]bool // the keys of slots that were named
	met     map[string]int    // how often each instruction was done
	odd     map[string]int    // how often something was done that no valid code does
}

func newModel(w *world.World, c api.Container, f api.Frame) *model {
	return &model{w: w, c: c, f: f, left: int(f.Gas), words: map[int]api.Word{}, returns: map[int]api.Place{}, asked: map[api.Word]bool{}, met: map[string]int{}, odd: map[string]int{}}
}

// over is how the model throws an end.
type over struct{ api.Ending }

func (m *model) halt(why int) { panic(over{api.Ending{Kind: api.EndHalt, Why: why}}) }

func (m *model) haltIf(holds bool, why int) {
	if holds {
		m.halt(why)
	}
}

func (m *model) oddIf(holds bool, what string) bool {
	if holds {
		m.odd[what]++
	}
	return holds
}

func (m *model) finish(x api.Ending) {
	x.Left = uint64(m.left)
	panic(over{x})
}

// byteAt is the byte of the section that stands there; 0 behind the end.
func (m *model) byteAt(at int) byte {
	b := m.c.Codes[m.place.Section]
	if m.oddIf(at >= len(b), "a byte behind the end") {
		return 0
	}
	return b[at]
}

// Go, State, Asked, Give, Ended, Sight: as those of a run.
func (m *model) Go(steps int) int {
	made := 0
	for ; made < steps && m.state == api.Going; made++ {
		m.step()
	}
	return made
}

func (m *model) State() int                { return m.state }
func (m *model) Asked() (api.Ask, bool)    { return m.ask, m.state == api.Asking }
func (m *model) Ended() (api.Ending, bool) { return m.end, m.state == api.Ended }

func (m *model) Give(x api.Reply) api.Errno {
	switch {
	case m.state != api.Asking:
		return api.ErrAsked
	case x.Status != api.Went && x.Status != api.TookBack && x.Status != api.Failed || x.Left > m.ask.Gas:
		return api.ErrArg
	}
	m.give(x)
	return api.OK
}

// Sight is what Sight has to tell.
func (m *model) Sight() api.Sight {
	x := api.Sight{State: m.state, Section: m.place.Section, At: m.place.At, Left: m.end.Left}
	if m.state != api.Ended {
		x.Height, x.Returns, x.Memory, x.Left = m.height, m.places, len(m.memory), uint64(m.left)
	}
	return x
}

// round is a number modulo another one, from 0 on.
func round(x, by int) int { return (x%by + by) % by }

// step makes one step.
func (m *model) step() {
	defer func() {
		if x := recover(); x != nil {
			m.end, m.state = x.(over).Ending, api.Ended
		}
	}()
	row, there := table[int(m.byteAt(m.place.At))]
	if m.oddIf(!there, "no instruction") {
		row = table[0xfe]
	}
	m.oddIf(m.f.Kind == api.Init && (row.name == "STOP" || row.name == "RETURN") || m.f.Kind == api.Runtime && row.name == "RETURNCODE", "barred")
	m.pay(row.cost)
	size := row.imm
	if size < 0 {
		size = 1 + 2*(int(m.byteAt(m.place.At+1))+1)
	}
	var imm []byte
	for i := range size {
		imm = append(imm, m.byteAt(m.place.At+1+i))
	}
	takes, leaves := row.needs(imm)
	m.oddIf(m.height < takes, "too few words")
	m.oddIf(m.height-takes+leaves > 1024, "too many words")
	m.goes(m.place.At + 1 + size)
	m.met[row.name]++
	m.do(row, imm)
	if m.state == api.Going {
		m.place = m.next
	}
}

// goes says where it goes on, in its section.
func (m *model) goes(at int) {
	m.oddIf(at < 0 || at > 65535, "a place that comes round")
	m.next = api.Place{Section: m.place.Section, At: round(at, 65536)}
}

func (m *model) pay(g int) {
	m.haltIf(m.left < g, api.HaltGas)
	m.left -= g
}

func (m *model) pop() api.Word {
	m.height--
	return m.words[round(m.height, 1024)]
}

func (m *model) push(x api.Word) {
	m.words[round(m.height, 1024)] = x
	m.height++
}

func (m *model) pushNumber(x int) { m.push(n(uint64(x))) }

// nth is where the n-th word from the top stands.
func (m *model) nth(n int) int { return round(m.height-n, 1024) }

// small is a word as an int, if it is below 2^31.
func small(x api.Word) (int, bool) {
	if x[1]|x[2]|x[3] != 0 || x[0] >= 1<<31 {
		return 0, false
	}
	return int(x[0]), true
}

// wordsFor is how many words of 32 bytes n bytes need.
func wordsFor(n int) int { return (n + 31) / 32 }

// payFor pays by a rule for n bytes.
func (m *model) payFor(x api.Word, rule func(n int) int) {
	n, ok := small(x)
	m.haltIf(!ok || n > api.MaxMemory, api.HaltGas)
	m.pay(rule(n))
}

func memoryCost(words int) int { return 3*words + words*words/512 }

// piece is a piece of memory, and from where to where it goes.
func (m *model) piece(at, n api.Word) (int, int) {
	if n == (api.Word{}) {
		return 0, 0
	}
	end := new(big.Int).Add(plainNumber(at), plainNumber(n))
	m.haltIf(end.Cmp(big.NewInt(api.MaxMemory)) > 0, api.HaltGas)
	to := int(end.Int64())
	if need, have := wordsFor(to), len(m.memory)/32; need > have {
		m.pay(memoryCost(need) - memoryCost(have))
		m.memory = append(m.memory, make([]byte, 32*(need-have))...)
	}
	return to - int(n[0]), to
}

func (m *model) pieceBytes(at, n api.Word) []byte {
	from, to := m.piece(at, n)
	return slices.Clone(m.memory[from:to])
}

// rowAt is n bytes of b at i, byte by byte.
func rowAt(b []byte, i api.Word, n int) []byte {
	out := make([]byte, n)
	from := plainNumber(i)
	if from.Cmp(big.NewInt(int64(len(b)))) >= 0 {
		return out
	}
	for k := range out {
		if at := int(from.Int64()) + k; at < len(b) {
			out[k] = b[at]
		}
	}
	return out
}

// source is of what bytes an instruction speaks.
func (m *model) source(name string) []byte {
	switch {
	case strings.HasPrefix(name, "CALLDATA"):
		return m.f.Input
	case strings.HasPrefix(name, "RETURNDATA"):
		return m.back
	}
	return m.c.Data
}

// isAddress is the address that a word is.
func (m *model) isAddress(x api.Word) api.Address {
	b := wordBytes(x)
	m.haltIf(slices.ContainsFunc(b[:12], func(x byte) bool { return x != 0 }), api.HaltAddress)
	return api.Address(b[12:])
}

func (m *model) warm(a api.Address) {
	if !m.w.Warm(a) {
		m.pay(2500)
	}
}

func (m *model) warmSlot(key api.Word, cost int) {
	m.asked[key] = true
	if !m.w.WarmSlot(m.f.Self, key) {
		m.pay(cost)
	}
}

// do is point 3 of a step, of all but what is told below.
func (m *model) do(row kind, imm []byte) {
	switch {
	case row.code >= 0x01 && row.code <= 0x1e:
		m.reckon(row)
	case row.code >= 0x5f && row.code <= 0x7f:
		m.push(bytesWord(imm))
	case row.code >= 0x80 && row.code <= 0x8f:
		m.push(m.words[m.nth(row.takes)])
	case row.code >= 0x90 && row.code <= 0x9f:
		m.change(1, row.takes)
	case row.code >= 0xa0 && row.code <= 0xa4:
		m.log(row.code - 0xa0)
	case row.name == "DUPN":
		m.push(m.words[m.nth(int(imm[0])+1)])
	case row.name == "SWAPN":
		m.change(1, int(imm[0])+2)
	case row.name == "EXCHANGE":
		m.change(int(imm[0]/16)+2, int(imm[0]/16)+int(imm[0]%16)+3)
	case row.code >= 0xe0 && row.code <= 0xe5:
		m.lead(row.name, imm)
	case row.code >= 0xf8 && row.code <= 0xfb:
		m.call(row.name)
	case strings.Contains(row.name, "LOAD") && row.name != "MLOAD" || strings.Contains(row.name, "STORE") && row.name[0] != 'M':
		m.keep(row.name, imm)
	case strings.HasSuffix(row.name, "COPY") || row.name[0] == 'M' && row.name != "MSIZE" || row.name == "KECCAK256":
		m.remember(row.name)
	case row.takes == 0 && row.leaves == 1:
		m.push(m.tell(row.name))
	default:
		m.other(row.name, imm)
	}
}

func (m *model) change(i, j int) {
	a, b := m.nth(i), m.nth(j)
	m.words[a], m.words[b] = m.words[b], m.words[a]
}

// reckon is ADD to SAR and CLZ.
func (m *model) reckon(row kind) {
	x := []api.Word{{}, {}, {}}
	for i := range row.takes {
		x[i] = m.pop()
	}
	if row.name == "EXP" {
		m.pay(50 * ((plainNumber(x[1]).BitLen() + 7) / 8))
	}
	made, ok := word.Do(row.code, x[0], x[1], x[2])
	if !ok {
		panic(row.name)
	}
	m.push(made)
}

// tell is the word that an instruction leaves that takes none.
func (m *model) tell(name string) api.Word {
	b := m.f.Block
	switch name {
	case "ADDRESS":
		return addressWord(m.f.Self)
	case "ORIGIN":
		return addressWord(m.f.Origin)
	case "CALLER":
		return addressWord(m.f.Caller)
	case "CALLVALUE":
		return m.f.Value
	case "GASPRICE":
		return m.f.Price
	case "CALLDATASIZE", "RETURNDATASIZE", "DATASIZE":
		return n(uint64(len(m.source(name))))
	case "MSIZE":
		return n(uint64(len(m.memory)))
	case "COINBASE":
		return addressWord(b.Coinbase)
	case "SELFBALANCE":
		return m.w.Balance(m.f.Self)
	}
	return map[string]api.Word{"TIMESTAMP": n(b.Time), "NUMBER": n(b.Number), "PREVRANDAO": b.Random, "GASLIMIT": n(b.Limit), "CHAINID": b.Chain, "BASEFEE": b.Base, "BLOBBASEFEE": b.BlobBase}[name]
}

// keep is loads from rows of bytes, and slots.
func (m *model) keep(name string, imm []byte) {
	switch name {
	case "DATALOADN":
		at := int(imm[0])*256 + int(imm[1])
		m.oddIf(len(m.c.Data) < at+32, "a word behind the data")
		m.push(bytesWord(rowAt(m.c.Data, n(uint64(at)), 32)))
	case "SLOAD":
		key := m.pop()
		m.warmSlot(key, 2000)
		m.push(m.w.Get(m.f.Self, key))
	case "TLOAD":
		key := m.pop()
		m.asked[key] = true
		m.push(m.w.TGet(m.f.Self, key))
	case "SSTORE":
		key, v := m.pop(), m.pop()
		m.haltIf(m.f.Still, api.HaltStill)
		m.haltIf(m.left < 2201, api.HaltGas)
		m.warmSlot(key, 2100)
		cost, refund := storeCost(m.w.Original(m.f.Self, key), m.w.Get(m.f.Self, key), v)
		m.pay(cost)
		m.w.Owe(refund)
		m.w.Set(m.f.Self, key, v)
	case "TSTORE":
		key, v := m.pop(), m.pop()
		m.haltIf(m.f.Still, api.HaltStill)
		m.asked[key] = true
		m.w.TSet(m.f.Self, key, v)
	default:
		m.push(bytesWord(rowAt(m.source(name), m.pop(), 32)))
	}
}

// storeCost is chapter 10's table of Store, row by row.
func storeCost(original, was, is api.Word) (cost, refund int) {
	var none api.Word
	switch {
	case is == was:
		return 0, 0
	case was == original && original == none:
		return 19900, 0
	case was == original && is == none:
		return 2800, 4800
	case was == original:
		return 2800, 0
	}
	if was == none && original != none {
		refund -= 4800
	}
	if is == none && original != none {
		refund += 4800
	}
	if is == original && original == none {
		refund += 19900
	}
	if is == original && original != none {
		refund += 2800
	}
	return 0, refund
}

// remember is what goes into memory and out of it.
func (m *model) remember(name string) {
	copied := func(n int) int { return 3 * wordsFor(n) }
	switch name {
	case "KECCAK256":
		at, n := m.pop(), m.pop()
		m.payFor(n, func(n int) int { return 6 * wordsFor(n) })
		h := sponge.Sum(m.pieceBytes(at, n))
		m.push(bytesWord(h[:]))
	case "MLOAD":
		m.push(bytesWord(m.pieceBytes(m.pop(), n(32))))
	case "MSTORE":
		at, v := m.pop(), m.pop()
		from, _ := m.piece(at, n(32))
		copy(m.memory[from:], wordBytes(v))
	case "MSTORE8":
		at, v := m.pop(), m.pop()
		from, _ := m.piece(at, n(1))
		m.memory[from] = wordBytes(v)[31]
	case "MCOPY":
		to, from, n := m.pop(), m.pop(), m.pop()
		m.payFor(n, copied)
		greater := to
		if plainNumber(from).Cmp(plainNumber(to)) > 0 {
			greater = from
		}
		if m.piece(greater, n); n != (api.Word{}) {
			copy(m.memory[to[0]:to[0]+n[0]], slices.Clone(m.memory[from[0]:from[0]+n[0]]))
		}
	default:
		to, i, n := m.pop(), m.pop(), m.pop()
		m.payFor(n, copied)
		from, end := m.piece(to, n)
		copy(m.memory[from:end], rowAt(m.source(name), i, end-from))
	}
}

func (m *model) log(topics int) {
	at, n := m.pop(), m.pop()
	x := api.Log{Address: m.f.Self}
	for range topics {
		x.Topics = append(x.Topics, m.pop())
	}
	m.haltIf(m.f.Still, api.HaltStill)
	m.payFor(n, func(n int) int { return 8 * n })
	x.Data = m.pieceBytes(at, n)
	m.w.Tell(x)
}

// lead is what goes on elsewhere.
func (m *model) lead(name string, imm []byte) {
	behind := m.place.At + 1 + len(imm)
	jump := func(b []byte) {
		distance := int(b[0])*256 + int(b[1])
		if distance >= 32768 {
			distance -= 65536
		}
		m.goes(behind + distance)
	}
	switch name {
	case "RJUMP":
		jump(imm)
	case "RJUMPI":
		if m.pop() != (api.Word{}) {
			jump(imm)
		}
	case "RJUMPV":
		if x, ok := small(m.pop()); ok && x < int(imm[0])+1 {
			jump(imm[1+2*x:])
		}
	case "RETF":
		m.oddIf(m.places <= 0, "a return to nowhere")
		m.places--
		m.next = m.returns[round(m.places, 1024)]
	default:
		m.toSection(name, int(imm[0])*256+int(imm[1]))
	}
}

// toSection is CALLF and JUMPF.
func (m *model) toSection(name string, s int) {
	if m.oddIf(s >= len(m.c.Types), "no section") {
		s %= len(m.c.Types)
	}
	t := m.c.Types[s]
	m.oddIf(name == "CALLF" && t.Out == 128, "a call of what never returns")
	m.haltIf(m.height-t.In+t.Most > 1024, api.HaltRoom)
	if name == "CALLF" {
		m.haltIf(m.places >= 1024, api.HaltReturns)
		m.returns[round(m.places, 1024)] = m.next
		m.places++
	}
	m.next = api.Place{Section: s}
}

// call is EXTCALL, EXTDELEGATECALL, EXTSTATICCALL.
func (m *model) call(name string) {
	a, at, size := m.pop(), m.pop(), m.pop()
	var v api.Word
	if name == "EXTCALL" {
		v = m.pop()
	}
	m.haltIf(m.f.Still && v != (api.Word{}), api.HaltStill)
	to := m.isAddress(a)
	input := m.pieceBytes(at, size)
	m.warm(to)
	if v != (api.Word{}) {
		m.pay(9000)
		if !m.w.Is(to) {
			m.pay(25000)
		}
	}
	m.back = nil
	passes := m.left - max(m.left/64, 5000)
	_, code := m.w.Code(to)
	if passes < 2300 || m.f.Depth == 1023 || m.poorer(v) || name == "EXTDELEGATECALL" && !code {
		m.pushNumber(1)
		return
	}
	asks := map[string]int{"EXTCALL": api.AskCall, "EXTDELEGATECALL": api.AskDelegate, "EXTSTATICCALL": api.AskStill}
	m.asks(api.Ask{Kind: asks[name], To: to, Value: v, Input: input}, passes)
}

// poorer: has Self less than this?
func (m *model) poorer(v api.Word) bool {
	return plainNumber(v).Cmp(plainNumber(m.w.Balance(m.f.Self))) > 0
}

func (m *model) asks(x api.Ask, passes int) {
	x.Gas = uint64(passes)
	m.left -= passes
	m.ask, m.state = x, api.Asking
}

// give answers an ask that may be answered so.
func (m *model) give(x api.Reply) {
	m.left += int(x.Left)
	made := m.ask.Kind == api.AskMake
	if !made || x.Status == api.TookBack {
		m.back = slices.Clone(x.Output)
	}
	switch {
	case !made:
		m.pushNumber(x.Status)
	case x.Status == api.Went:
		m.push(addressWord(x.Address))
	default:
		m.pushNumber(0)
	}
	m.ask, m.place, m.state = api.Ask{}, m.next, api.Going
}

// other is all else.
func (m *model) other(name string, imm []byte) {
	switch name {
	case "STOP":
		m.finish(api.Ending{Kind: api.EndStop})
	case "RETURN", "REVERT":
		at, n := m.pop(), m.pop()
		kind := map[string]int{"RETURN": api.EndReturn, "REVERT": api.EndRevert}[name]
		m.finish(api.Ending{Kind: kind, Output: m.pieceBytes(at, n)})
	case "INVALID":
		m.halt(api.HaltInvalid)
	case "POP":
		m.pop()
	case "NOP":
	case "BALANCE":
		a := m.isAddress(m.pop())
		m.warm(a)
		m.push(m.w.Balance(a))
	case "BLOCKHASH":
		behind := new(big.Int).Sub(new(big.Int).SetUint64(m.f.Block.Number), plainNumber(m.pop()))
		m.pushHash(m.f.Block.Hashes, behind.Sub(behind, big.NewInt(1)))
	case "BLOBHASH":
		m.pushHash(m.f.Blobs, plainNumber(m.pop()))
	case "EOFCREATE":
		m.create(int(imm[0]))
	case "RETURNCODE":
		m.deploy(int(imm[0]))
	default:
		panic(name)
	}
}

// pushHash is the hash of that number, or 0.
func (m *model) pushHash(l []api.Hash, at *big.Int) {
	if at.Sign() < 0 || at.Cmp(big.NewInt(int64(len(l)))) >= 0 {
		m.pushNumber(0)
		return
	}
	m.push(bytesWord(l[at.Int64()][:]))
}

// nested is the nested container of that number; false: it is not there, or is none.
func (m *model) nested(s int, open bool) (api.Container, bool) {
	if m.oddIf(s >= len(m.c.Subs), "no nested container") {
		return api.Container{}, false
	}
	c, no := container.Parse(m.c.Subs[s], open)
	return c, !m.oddIf(no.Code != api.OK, "a nested container that is none")
}

func (m *model) create(s int) {
	v, salt, at, size := m.pop(), m.pop(), m.pop(), m.pop()
	m.haltIf(m.f.Still, api.HaltStill)
	input := m.pieceBytes(at, size)
	_, there := m.nested(s, false)
	length := 0
	if s < len(m.c.Subs) {
		length = len(m.c.Subs[s])
	}
	m.pay(6 * wordsFor(length))
	m.back = nil
	if !there || m.f.Depth == 1023 || m.poorer(v) || m.w.Nonce(m.f.Self) == 1<<64-1 {
		m.pushNumber(0)
		return
	}
	m.asks(api.Ask{Kind: api.AskMake, Value: v, Sub: s, Salt: salt, Input: input}, m.left-m.left/64)
}

func (m *model) deploy(s int) {
	at, n := m.pop(), m.pop()
	behind := m.pieceBytes(at, n)
	c, there := m.nested(s, true)
	m.haltIf(!there, api.HaltDeploy)
	data := slices.Concat(c.Data, behind)
	m.haltIf(len(data) < c.Size || len(data) > 65535, api.HaltDeploy)
	c.Data, c.Size = data, len(data)
	output := bytesOf(c)
	m.haltIf(len(output) > 24576, api.HaltDeploy)
	m.pay(200 * len(output))
	m.finish(api.Ending{Kind: api.EndDeploy, Output: output, Sub: s, Behind: behind})
}
