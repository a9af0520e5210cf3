package world

import (
	"vouch/api"
	"vouch/undo"
)

// maxRefund is the greatest refund that may be owed.
const maxRefund = 1 << 62

// Warm makes an address warm: was it?
func (w *World) Warm(a api.Address) bool { return touch(w.warm, owner{a}) }

// WarmSlot makes a slot warm: was it?
func (w *World) WarmSlot(a api.Address, key api.Word) bool { return touch(w.warmSlots, place{a, key}) }

// touch sees to it that a key is there: was it?
func touch[K comparable](t *undo.Table[K, struct{}], k K) bool {
	_, there := t.Get(k)
	if !there {
		t.Set(k, struct{}{})
	}
	return there
}

// Tell puts a log behind the others.
func (w *World) Tell(x api.Log) { w.logs = append(w.logs, copyOf(x)) }

// Logs are all of them.
func (w *World) Logs() []api.Log {
	list := make([]api.Log, len(w.logs))
	for i, x := range w.logs {
		list[i] = copyOf(x)
	}
	return list
}

// copyOf is a log that shares nothing with x. (To append to nil, and not to a piece of x, lets an empty list go too.)
func copyOf(x api.Log) api.Log {
	return api.Log{
		Address: x.Address,
		Topics:  append([]api.Word(nil), x.Topics...),
		Data:    append([]byte(nil), x.Data...),
	}
}

// Owe changes the refund by n.
func (w *World) Owe(n int) api.Errno {
	// The sum might wrap: what room there is on either side of the refund is asked instead.
	if n < -w.refund || n > maxRefund-w.refund {
		return api.ErrArg
	}
	w.refund += n
	return api.OK
}

// Owed is the refund.
func (w *World) Owed() int { return w.refund }
