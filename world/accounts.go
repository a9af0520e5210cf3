package world

import (
	"slices"

	"vouch/api"
)

// Accounts are all of them, rising.
func (w *World) Accounts() []api.Account {
	slots := w.slotsOfEach()
	list := make([]api.Account, 0, w.holdings.Len())
	for o, h := range w.holdings.All(byOwner) {
		x := api.Account{Address: o.address, Nonce: h.nonce, Balance: h.balance}
		if h.code != nil { // what was set without code is kept, but not told
			x.Code, x.Slots = h.code.Bytes(), slots[o]
		}
		list = append(list, x)
	}
	return list
}

// slotsOfEach are the slots of each address, rising.
func (w *World) slotsOfEach() map[owner][]api.Slot {
	each := map[owner][]api.Slot{}
	for p, v := range w.slots.All(nil) {
		o := owner{p.address}
		each[o] = append(each[o], api.Slot{Key: p.key, Value: v})
	}
	for _, l := range each { // each list is sorted by itself, whichever comes first
		slices.SortFunc(l, bySlot)
	}
	return each
}

func byOwner(a, b owner) int { return byAddress(a.address, b.address) }

// Sum is all balances together. It is kept beside them: to add them up anew would cost Put a look at every account.
func (w *World) Sum() api.Word { return w.sum }
