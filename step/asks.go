package step

import (
	"math"

	"vouch/api"
	"vouch/container"
	"vouch/gas"
	"vouch/word"
)

// call: EXTCALL, EXTDELEGATECALL, EXTSTATICCALL.
func (r *Run) call(i api.Instr) {
	target, at, n := r.take(), r.take(), r.take()
	var value api.Word
	if i.Code == opExtCall {
		value = r.take()
	}
	// Not as at other changes: whether it is one hangs on the value.
	if r.frame.Still && !word.IsZero(value) {
		halt(api.HaltStill)
	}
	to := address(target)
	from, many := r.piece(at, n)
	r.warm(to)
	r.payValue(to, value)
	r.returnData = nil
	passes, enough := gas.Pass(r.meter.Left())
	if !enough || r.cannotGive(value) || i.Code == opExtDelegateCall && !r.hasCode(to) {
		r.leave(count(api.TookBack))
		return
	}
	r.asks(api.Ask{Kind: askOf(i.Code), To: to, Value: value, Gas: passes}, from, many)
}

// askOf is what a call asks for.
func askOf(code int) int {
	switch code {
	case opExtDelegateCall:
		return api.AskDelegate
	case opExtStaticCall:
		return api.AskStill
	}
	return api.AskCall
}

// payValue pays for a value that is to move to an address; for none nothing is paid.
func (r *Run) payValue(to api.Address, value api.Word) {
	if word.IsZero(value) {
		return
	}
	r.pay(api.Value)
	if !r.world.Is(to) {
		r.pay(api.NewAccount)
	}
}

// cannotGive: may no frame stand above this one, or has Self less than the value that would go there?
func (r *Run) cannotGive(value api.Word) bool {
	return r.frame.Depth == api.MaxDepth-1 || word.Gt(value, r.world.Balance(r.frame.Self))
}

// hasCode: has an address some?
func (r *Run) hasCode(a api.Address) bool {
	_, there := r.world.Code(a)
	return there
}

// create: EOFCREATE.
func (r *Run) create(i api.Instr) {
	value, salt, at, n := r.take(), r.take(), r.take(), r.take()
	sub := named(i)
	r.nested(sub, false)
	from, many := r.piece(at, n)
	r.pay(gas.Hash(len(r.whole.Subs[sub])))
	r.returnData = nil
	if r.cannotGive(value) || r.world.Nonce(r.frame.Self) == math.MaxUint64 {
		r.leave(api.Word{})
		return
	}
	r.asks(api.Ask{Kind: api.AskMake, Value: value, Sub: sub, Salt: salt, Gas: gas.Make(r.meter.Left())}, from, many)
}

// asks asks for a frame, with a piece of memory as its Input: the gas that passes is gone.
func (r *Run) asks(x api.Ask, from, many int) {
	r.pay(x.Gas)
	x.Input, _ = r.Read(from, many)
	r.ask, r.state = x, api.Asking
}

// answered takes what was asked for.
func (r *Run) answered(x api.Reply) {
	r.meter.Gain(x.Left)
	made := r.ask.Kind == api.AskMake
	if !made || x.Status == api.TookBack {
		r.returnData = append([]byte(nil), x.Output...)
	}
	switch {
	case !made:
		r.leave(count(x.Status))
	case x.Status == api.Went:
		r.leave(word.FromAddress(x.Address))
	default:
		r.leave(api.Word{})
	}
}

// deploy: RETURNCODE.
func (r *Run) deploy(i api.Instr) {
	at, n := r.take(), r.take()
	sub := named(i)
	c := r.nested(sub, true)
	behind := r.pieceBytes(at, n)
	// What was parsed may be a container: Lay refuses only data that are too short, or too long.
	laid, wrong := container.Lay(c, behind)
	size, _ := container.Size(laid)
	if wrong != api.OK || size > api.MaxDeploy {
		halt(api.HaltDeploy)
	}
	r.pay(gas.Deploy(size))
	output, _ := container.Serialize(laid)
	r.end(api.Ending{Kind: api.EndDeploy, Output: output, Sub: sub, Behind: behind})
}

// nested is the nested container of that number, whole or open.
func (r *Run) nested(sub int, open bool) api.Container {
	if sub >= len(r.whole.Subs) {
		fault(api.FaultSub)
	}
	c, no := container.Parse(r.whole.Subs[sub], open)
	if no.Code != api.OK {
		fault(api.FaultSub)
	}
	return c
}
