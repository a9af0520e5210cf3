package word

import "vouch/api"

// deed is what an instruction makes of the words that it takes, the topmost first; it looks at no others.
type deed func(a, b, c api.Word) api.Word

// Do: what the instruction of that code makes of its words; false: it is none of numbers.
func Do(code int, a, b, c api.Word) (api.Word, bool) {
	table := deeds()
	if code < 0 || code >= len(table) || table[code] == nil {
		return api.Word{}, false
	}
	return table[code](a, b, c), true
}

// deeds is made by a function, and of closures that hold nothing, so that it costs a copy and no package variable.
func deeds() [0x1f]deed {
	return [0x1f]deed{
		0x01: func(a, b, _ api.Word) api.Word { return Add(a, b) },
		0x02: func(a, b, _ api.Word) api.Word { return Mul(a, b) },
		0x03: func(a, b, _ api.Word) api.Word { return Sub(a, b) },
		0x04: func(a, b, _ api.Word) api.Word { return Div(a, b) },
		0x05: func(a, b, _ api.Word) api.Word { return SDiv(a, b) },
		0x06: func(a, b, _ api.Word) api.Word { return Mod(a, b) },
		0x07: func(a, b, _ api.Word) api.Word { return SMod(a, b) },
		0x08: func(a, b, c api.Word) api.Word { return AddMod(a, b, c) },
		0x09: func(a, b, c api.Word) api.Word { return MulMod(a, b, c) },
		0x0a: func(a, b, _ api.Word) api.Word { return Exp(a, b) },
		0x0b: func(a, b, _ api.Word) api.Word { return SignExtend(a, b) },
		0x10: func(a, b, _ api.Word) api.Word { return truth(Lt(a, b)) },
		0x11: func(a, b, _ api.Word) api.Word { return truth(Gt(a, b)) },
		0x12: func(a, b, _ api.Word) api.Word { return truth(SLt(a, b)) },
		0x13: func(a, b, _ api.Word) api.Word { return truth(SGt(a, b)) },
		0x14: func(a, b, _ api.Word) api.Word { return truth(Eq(a, b)) },
		0x15: func(a, _, _ api.Word) api.Word { return truth(IsZero(a)) },
		0x16: func(a, b, _ api.Word) api.Word { return And(a, b) },
		0x17: func(a, b, _ api.Word) api.Word { return Or(a, b) },
		0x18: func(a, b, _ api.Word) api.Word { return Xor(a, b) },
		0x19: func(a, _, _ api.Word) api.Word { return Not(a) },
		0x1a: func(a, b, _ api.Word) api.Word { return Byte(a, b) },
		0x1b: func(a, b, _ api.Word) api.Word { return Shl(a, b) },
		0x1c: func(a, b, _ api.Word) api.Word { return Shr(a, b) },
		0x1d: func(a, b, _ api.Word) api.Word { return Sar(a, b) },
		0x1e: func(a, _, _ api.Word) api.Word { return Clz(a) },
	}
}

// truth is 1, or 0 of what isn't true.
func truth(holds bool) api.Word {
	if holds {
		return api.Word{1}
	}
	return api.Word{}
}
