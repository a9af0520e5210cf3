package fast

import (
	"vouch/api"
	"vouch/gas"
	"vouch/word"
)

// one leaves what is made of the topmost word; two, of the two topmost; three, of three.
func (f *frame) one(do func(a api.Word) api.Word) { f.Put(do(f.Take())) }

func (f *frame) two(do func(a, b api.Word) api.Word) {
	a, b := f.Take(), f.Take()
	f.Put(do(a, b))
}

func (f *frame) three(do func(a, b, c api.Word) api.Word) {
	a, b, c := f.Take(), f.Take(), f.Take()
	f.Put(do(a, b, c))
}

// holds leaves whether something holds of the two topmost words.
func (f *frame) holds(ask func(a, b api.Word) bool) {
	a, b := f.Take(), f.Take()
	f.Put(truth(ask(a, b)))
}

// truth is 1, or 0 of what isn't true.
func truth(holds bool) api.Word {
	if holds {
		return api.Word{1}
	}
	return api.Word{}
}

func (f *frame) add()        { f.two(word.Add) }
func (f *frame) mul()        { f.two(word.Mul) }
func (f *frame) sub()        { f.two(word.Sub) }
func (f *frame) div()        { f.two(word.Div) }
func (f *frame) sDiv()       { f.two(word.SDiv) }
func (f *frame) mod()        { f.two(word.Mod) }
func (f *frame) sMod()       { f.two(word.SMod) }
func (f *frame) addMod()     { f.three(word.AddMod) }
func (f *frame) mulMod()     { f.three(word.MulMod) }
func (f *frame) signExtend() { f.two(word.SignExtend) }

func (f *frame) exp() {
	if f.pay(gas.Exp(f.Peek(2))) {
		f.two(word.Exp)
	}
}

func (f *frame) lt()     { f.holds(word.Lt) }
func (f *frame) gt()     { f.holds(word.Gt) }
func (f *frame) sLt()    { f.holds(word.SLt) }
func (f *frame) sGt()    { f.holds(word.SGt) }
func (f *frame) eq()     { f.holds(word.Eq) }
func (f *frame) isZero() { f.Put(truth(word.IsZero(f.Take()))) }

func (f *frame) and()    { f.two(word.And) }
func (f *frame) or()     { f.two(word.Or) }
func (f *frame) xor()    { f.two(word.Xor) }
func (f *frame) not()    { f.one(word.Not) }
func (f *frame) byteOf() { f.two(word.Byte) }
func (f *frame) shl()    { f.two(word.Shl) }
func (f *frame) shr()    { f.two(word.Shr) }
func (f *frame) sar()    { f.two(word.Sar) }
func (f *frame) clz()    { f.one(word.Clz) }

func (f *frame) pop() { f.Take() }

func (f *frame) nop() {}

// push: PUSH0 to PUSH32.
func (f *frame) push() { f.Put(wordOf(f.immediate(f.instruction() - push0))) }

// dup: DUP1 to DUP16.
func (f *frame) dup() { f.Again(f.instruction() - dup1 + 1) }

func (f *frame) dupN() { f.Again(f.short() + 1) }

// swap: SWAP1 to SWAP16.
func (f *frame) swap() { f.Turn(1, f.instruction()-swap1+2) }

func (f *frame) swapN() { f.Turn(1, f.short()+2) }

func (f *frame) exchange() {
	both := f.short()
	n, m := both>>4+1, both&0xf+1
	f.Turn(n+1, n+m+1)
}

// wordOf is the number that at most 32 bytes are.
func wordOf(b []byte) api.Word {
	x, _ := word.FromBytes(b)
	return x
}

// count is a number of bytes, or of anything, as a word.
func count(n int) api.Word { return word.FromUint(uint64(n)) }
