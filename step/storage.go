package step

import (
	"vouch/api"
	"vouch/gas"
)

// balance: BALANCE.
func (r *Run) balance(api.Instr) {
	a := address(r.take())
	r.warm(a)
	r.leave(r.world.Balance(a))
}

// slotLoad: SLOAD.
func (r *Run) slotLoad(api.Instr) {
	key := r.take()
	r.warmSlot(key, api.ColdSlot)
	r.leave(r.world.Get(r.frame.Self, key))
}

// slotStore: SSTORE.
func (r *Run) slotStore(api.Instr) {
	self, key, x := r.frame.Self, r.take(), r.take()
	if r.meter.Left() < api.Sentry {
		halt(api.HaltGas)
	}
	r.warmSlot(key, api.ColdStore)
	cost, refund := gas.Store(r.world.Original(self, key), r.world.Get(self, key), x)
	r.pay(cost)
	r.world.Owe(refund)
	r.world.Set(self, key, x)
}

// transientLoad: TLOAD.
func (r *Run) transientLoad(api.Instr) { r.leave(r.world.TGet(r.frame.Self, r.take())) }

// transientStore: TSTORE.
func (r *Run) transientStore(api.Instr) {
	key, x := r.take(), r.take()
	r.world.TSet(r.frame.Self, key, x)
}
