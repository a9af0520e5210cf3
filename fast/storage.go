package fast

import (
	"vouch/api"
	"vouch/gas"
)

func (f *frame) balance() {
	if a, is := f.address(f.Take()); is && f.warm(a) {
		f.Put(f.world.Balance(a))
	}
}

func (f *frame) sLoad() {
	key := f.Take()
	if f.warmSlot(key, api.ColdSlot) {
		f.Put(f.world.Get(f.given.Self, key))
	}
}

func (f *frame) sStore() {
	self, key, x := f.given.Self, f.Take(), f.Take()
	if !f.mayChange() {
		return
	}
	if f.meter.Left() < api.Sentry {
		f.halt(api.HaltGas)
		return
	}
	if !f.warmSlot(key, api.ColdStore) {
		return
	}
	cost, refund := gas.Store(f.world.Original(self, key), f.world.Get(self, key), x)
	if f.pay(cost) {
		f.world.Owe(refund)
		f.world.Set(self, key, x)
	}
}

func (f *frame) tLoad() { f.Put(f.world.TGet(f.given.Self, f.Take())) }

func (f *frame) tStore() {
	key, x := f.Take(), f.Take()
	if f.mayChange() {
		f.world.TSet(f.given.Self, key, x)
	}
}
