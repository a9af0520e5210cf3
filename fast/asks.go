package fast

import (
	"math"

	"vouch/api"
	"vouch/gas"
	"vouch/word"
)

func (f *frame) extCall() {
	to, at, n, value := f.Take(), f.Take(), f.Take(), f.Take()
	if word.IsZero(value) || f.mayChange() {
		f.call(api.Ask{Kind: api.AskCall, Value: value}, to, at, n)
	}
}

func (f *frame) extDelegateCall() { f.callPlain(api.AskDelegate) }

func (f *frame) extStaticCall() { f.callPlain(api.AskStill) }

// callPlain is a call without a value.
func (f *frame) callPlain(kind int) {
	to, at, n := f.Take(), f.Take(), f.Take()
	f.call(api.Ask{Kind: kind}, to, at, n)
}

// call asks for the frame that an instruction calls, where it can.
func (f *frame) call(x api.Ask, to, at, n api.Word) {
	a, is := f.address(to)
	if !is {
		return
	}
	from, size, ok := f.piece(at, n)
	if !ok || !f.warm(a) || !f.payValue(a, x.Value) {
		return
	}
	f.returnData = nil
	passes, enough := gas.Pass(f.meter.Left())
	if !enough || f.cannotGive(x.Value) || x.Kind == api.AskDelegate && !f.hasCode(a) {
		f.Put(count(api.TookBack))
		return
	}
	x.To, x.Gas = a, passes
	f.asks(x, from, size)
}

// payValue pays for a value that is to move to an address; for none nothing is paid.
func (f *frame) payValue(to api.Address, value api.Word) bool {
	if word.IsZero(value) {
		return true
	}
	return f.pay(api.Value) && (f.world.Is(to) || f.pay(api.NewAccount))
}

// cannotGive: may no frame stand above this one, or has Self less than the value that would go there?
func (f *frame) cannotGive(value api.Word) bool {
	return f.given.Depth == api.MaxDepth-1 || word.Gt(value, f.world.Balance(f.given.Self))
}

// hasCode: has an address some?
func (f *frame) hasCode(a api.Address) bool {
	_, there := f.world.Code(a)
	return there
}

func (f *frame) eofCreate() {
	sub := f.short()
	value, salt, at, n := f.Take(), f.Take(), f.Take(), f.Take()
	if !f.mayChange() {
		return
	}
	from, many, ok := f.piece(at, n)
	if !ok {
		return
	}
	size, can := f.source.nested(sub)
	if !f.pay(gas.Hash(size)) {
		return
	}
	f.returnData = nil
	if !can || f.cannotGive(value) || f.world.Nonce(f.given.Self) == math.MaxUint64 {
		f.Put(api.Word{})
		return
	}
	f.asks(api.Ask{Kind: api.AskMake, Value: value, Sub: sub, Salt: salt, Gas: gas.Make(f.meter.Left())}, from, many)
}

// asks asks for a frame, with a piece of memory as its Input: the gas that passes is gone.
func (f *frame) asks(x api.Ask, from, size int) {
	f.meter.Pay(x.Gas)
	x.Input, _ = f.Read(from, size)
	f.ask, f.state = x, api.Asking
}

// answered takes what was asked for, and goes on.
func (f *frame) answered(x api.Reply) {
	f.meter.Gain(x.Left)
	made := f.ask.Kind == api.AskMake
	if !made || x.Status == api.TookBack {
		f.returnData = append([]byte(nil), x.Output...)
	}
	switch {
	case !made:
		f.Put(count(x.Status))
	case x.Status == api.Went:
		f.Put(word.FromAddress(x.Address))
	default:
		f.Put(api.Word{})
	}
	f.ask, f.state = api.Ask{}, api.Going
	f.goOn()
}

func (f *frame) returnCode() {
	sub := f.short()
	at, n := f.Take(), f.Take()
	behind, ok := f.pieceBytes(at, n)
	if !ok {
		return
	}
	code, can := f.source.laid(sub, behind)
	if !can {
		f.halt(api.HaltDeploy)
		return
	}
	if f.pay(gas.Deploy(len(code))) {
		f.end(api.Ending{Kind: api.EndDeploy, Output: code, Sub: sub, Behind: behind})
	}
}
