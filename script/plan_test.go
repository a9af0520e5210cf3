package script_test

import (
	"slices"

	"vouch/api"
	"vouch/call"
	"vouch/container"
	"vouch/flow"
	"vouch/word"
)

// writer writes the sections of a container that is to be valid. What it writes leaves the stack as it was, if nothing else is said.
type writer struct {
	drawing
	kind   int
	inits  []byte        // the numbers of the nested containers to make accounts with
	lays   []byte        // the numbers of those to lay
	callee bool          // there is a section 1 to call
	to     []api.Address // whom it calls mostly: if all called all, most runs would go round till the gas is gone
}

// target is whom a call goes to: a word.
func (x *writer) target() api.Word {
	switch x.IntN(12) {
	case 0:
		return wordOf(pick(x.drawing, known...))
	case 1:
		return pick(x.drawing, api.Word{2: 1 << 32}, word.Not(n(0)), wordOf(addr(99)), n(0), wordOf(b), wordOf(b))
	case 2, 3:
		return wordOf(pick(x.drawing, e, a, call.Made(b, n(1)), call.Made(c, n(1)), call.Made(d, n(0))))
	}
	return wordOf(pick(x.drawing, x.to...))
}

// value is mostly none.
func (g drawing) value() api.Word { return n(pick(g, uint64(0), 0, 0, 0, 1, 2, 5, 3000)) }

// piece is a place and a length in memory, pushed onto what is pushed ahead.
func (g drawing) piece() []api.Word {
	return []api.Word{n(uint64(g.IntN(40))), n(uint64(pick(g, 0, 1, 32, g.IntN(70))))}
}

// leaves writes what leaves a word: mostly an ask.
func (x *writer) leaves() []byte {
	to := append([]api.Word{x.target()}, x.piece()...)
	switch x.IntN(16) {
	case 0, 1, 2, 3, 4:
		return join(pushed(append(to, x.value())...), raw("f8"))
	case 5, 6, 7:
		return join(pushed(to...), raw("f9"))
	case 8, 9:
		return join(pushed(to...), raw("fb"))
	case 10, 11, 12:
		if len(x.inits) > 0 {
			return x.makes(pick(x.drawing, x.inits...))
		}
	case 13:
		return join(pushed(to[0]), raw("31"))
	}
	return x.condition()
}

// makes writes an EOFCREATE.
func (x *writer) makes(sub byte) []byte {
	return join(pushed(append([]api.Word{x.value(), n(uint64(x.IntN(3)))}, x.piece()...)...), []byte{0xec, sub})
}

// condition writes what leaves a word that is 0 or is not, as it comes.
func (x *writer) condition() []byte {
	return pick(x.drawing, raw("5f"), raw("6001"), raw("36"), raw("3d"), raw("34"), raw("47"), raw("5f 35"), raw("6001 5c"), raw("6001 54"), raw("6002 54"))
}

// over writes what is gone over, if the word on the stack is not 0; it takes the word.
func over(code []byte) []byte {
	return join([]byte{0xe1, byte(len(code) >> 8), byte(len(code))}, code)
}

// act writes something, within which others may stand so deep.
func (x *writer) act(deep int) []byte {
	switch way := x.IntN(16); {
	case way < 4: // often a slot is cleared
		return store(uint64(x.IntN(5)), pick(x.drawing, uint64(0), 0, 1, 2))
	case way == 4:
		return tstore(uint64(x.IntN(5)), uint64(x.IntN(4)))
	case way == 5:
		topics := x.IntN(3)
		return join(pushed(append(x.piece(), n(7), n(8))[:2+topics]...), []byte{0xa0 + byte(topics)})
	case way == 6:
		return pick(x.drawing, raw("3d 5f 5f 3e"), raw("5f 35 5f 52"), raw("36 5f 6020 37"), raw("6007 6001 53"), raw("30 6010 52"))
	case way == 7 && deep > 0:
		return x.loop(x.act(deep - 1))
	case way == 8 && x.callee:
		return raw("e30001")
	case way == 9 && len(x.inits) > 0: // what was made is called
		return join(pushed(append(x.piece(), n(uint64(x.IntN(2))))...), x.makes(pick(x.drawing, x.inits...)), raw("f8 50"))
	case way == 10 && deep > 0:
		return join(x.condition(), over(x.ends()))
	}
	switch x.IntN(5) {
	case 0:
		return join(x.leaves(), keep(uint64(x.IntN(5))))
	case 1:
		return join(x.leaves(), raw("5f 52"))
	case 2:
		if deep > 0 {
			return join(x.leaves(), over(x.act(deep-1)))
		}
	}
	return join(x.leaves(), drop)
}

// acts writes some.
func (x *writer) acts(most int) []byte {
	var out []byte
	for range 1 + x.IntN(most) {
		out = append(out, x.act(2)...)
	}
	return out
}

// loop goes through code a few times.
func (x *writer) loop(code []byte) []byte {
	turn := join(code, raw("6001 90 03 80"))
	back := -len(turn) - 3
	return join([]byte{0x60, byte(1 + x.IntN(3))}, turn, []byte{0xe1, byte(uint16(back) >> 8), byte(back)}, drop)
}

// lay ends with an account's code.
func (x *writer) lay(sub byte) []byte {
	return join(pushed(x.piece()...), []byte{0xee, sub})
}

// ends writes an end.
func (x *writer) ends() []byte {
	way := x.IntN(10)
	switch {
	case way == 0:
		return invalid
	case way < 3:
		return join(pushed(x.piece()...), raw("fd"))
	case x.kind == api.Init:
		return x.lay(pick(x.drawing, x.lays...))
	case way < 6:
		return raw("00")
	case way == 6:
		return upwards
	}
	return join(pushed(x.piece()...), raw("f3"))
}

// first writes the first section: all that is nested is named in it, and section 1, if there is one.
func (x *writer) first() []byte {
	var due [][]byte
	for _, sub := range x.inits {
		due = append(due, join(x.makes(sub), drop))
	}
	for _, sub := range x.lays {
		due = append(due, join(x.condition(), over(x.lay(sub))))
	}
	if x.callee {
		due = append(due, raw("e30001"))
	}
	for range 1 + x.IntN(6) {
		due = append(due, x.act(2))
	}
	x.Shuffle(len(due), func(i, j int) { due[i], due[j] = due[j], due[i] })
	return append(join(due...), x.ends()...)
}

// container is the bytes of one that is valid as a kind, and whole, or open, if that is asked for; with others nested in it so deep; it calls these.
func (g drawing) container(kind, deep int, open bool, to ...api.Address) []byte {
	x := &writer{drawing: g, kind: kind, callee: g.IntN(3) == 0, to: to}
	out := api.Container{Types: []api.Type{{Out: never}}}
	add := func(sub []byte) byte {
		out.Subs = append(out.Subs, sub)
		return byte(len(out.Subs) - 1)
	}
	if kind == api.Init {
		for range 1 + g.IntN(2) {
			x.lays = append(x.lays, add(g.container(api.Runtime, deep-1, true, d, e)))
		}
	}
	if deep > 0 {
		for range g.IntN(3) {
			x.inits = append(x.inits, add(g.container(api.Init, deep-1, false, to...)))
		}
	}
	out.Codes = [][]byte{x.first()}
	if x.callee {
		x.callee = false // it calls no other one
		out.Types = append(out.Types, api.Type{})
		out.Codes = append(out.Codes, append(x.acts(2), 0xe4))
	}
	for range out.Codes {
		for s, code := range slices.Backward(out.Codes) {
			heights, _, _ := flow.Heights(out.Types, s, code)
			out.Types[s].Most = flow.Most(heights)
		}
	}
	out.Size = pick(g, 0, 0, 3, 32)
	out.Data = g.bytes(out.Size)
	if open {
		out.Data = out.Data[:g.IntN(out.Size+1)]
	}
	bytes, wrong := container.Serialize(out)
	if wrong != api.OK {
		panic(wrong)
	}
	return bytes
}

// known are the addresses that codes and messages name.
var known = knownAddresses()

func knownAddresses() []api.Address {
	l := []api.Address{{}, a, b, c, d, e, addr(0xcb), addr(99)}
	for _, by := range []api.Address{a, b, c, d, e} {
		for salt := range uint64(3) {
			l = append(l, call.Made(by, n(salt)))
		}
	}
	return l
}

// coder is an account with a drawn code, which calls these.
func (g drawing) coder(x api.Address, to ...api.Address) api.Account {
	code := g.container(api.Runtime, 1+g.IntN(2), false, to...)
	for len(code) > api.MaxDeploy {
		code = g.container(api.Runtime, 1, false, to...)
	}
	l := api.Account{Address: x, Nonce: pick(g, uint64(0), 1, 5, 1<<64-1, 1<<64-2, 1), Balance: n(pick(g, uint64(0), 3, 50, 1000)), Code: code}
	for key := range uint64(4) {
		if g.IntN(3) > 0 {
			l.Slots = append(l.Slots, api.Slot{Key: n(key), Value: n(uint64(1 + g.IntN(3)))})
		}
	}
	return l
}

// world is a list of accounts: A is rich, B, C and D have codes, E is there or not; and something may stand where others would be made.
func (g drawing) world() []api.Account {
	l := []api.Account{{Address: a, Nonce: uint64(g.IntN(3)), Balance: n(10000)}, g.coder(b, c, c, d), g.coder(c, d, d, e), g.coder(d, e, a)}
	if g.IntN(2) == 0 {
		l = append(l, at(e, 9, nil))
	}
	for _, by := range []api.Address{a, b, c, d} {
		x := call.Made(by, n(uint64(g.IntN(3))))
		switch g.IntN(8) {
		case 0:
			l = append(l, at(x, 4, nil))
		case 1:
			l = append(l, api.Account{Address: x, Nonce: 3})
		case 2:
			l = append(l, g.coder(x, d, e))
		}
	}
	return list(l...)
}

// message is one of which most are taken; and a block.
func (g drawing) message() (api.Block, api.Message) {
	m := api.Message{
		From:  pick(g, a, a, a, a, b, e, addr(99)),
		To:    pick(g, b, b, b, c, d, e, a, pick(g, known...)),
		Value: g.value(),
		Input: g.bytes(pick(g, 0, 3, 40)),
		Gas:   pick(g, uint64(g.IntN(300)), 3000, 30000, 100000, 400000, 1200000, 1200000, 4000000),
		Price: n(uint64(g.IntN(9))),
		Still: g.IntN(7) == 0,
		Make:  g.IntN(4) == 0,
		Salt:  n(uint64(g.IntN(3))),
	}
	if m.Still {
		m.Value, m.Make = n(0), false
	}
	if m.Make {
		m.Init = g.container(api.Init, 2, false, b, c, d)
	}
	for range g.IntN(3) {
		m.Blobs = append(m.Blobs, api.Hash(g.bytes(32)))
	}
	block := api.Block{Number: uint64(g.IntN(4)), Coinbase: pick(g, addr(0xcb), c, e)}
	for range g.IntN(3) {
		block.Hashes = append(block.Hashes, api.Hash(g.bytes(32)))
	}
	return block, m
}
