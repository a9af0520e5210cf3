package world

import (
	"math"

	"vouch/api"
	"vouch/valid"
	"vouch/word"
)

// of is what an address has.
func (w *World) of(a api.Address) holding {
	h, _ := w.holdings.Get(owner{a})
	return h
}

// lay lays down what an address has from now on.
func (w *World) lay(a api.Address, h holding) {
	if h == (holding{}) {
		w.holdings.Delete(owner{a})
		return
	}
	w.holdings.Set(owner{a}, h)
}

// Is it an account?
func (w *World) Is(a api.Address) bool {
	_, there := w.holdings.Get(owner{a})
	return there
}

// Balance is that of an address.
func (w *World) Balance(a api.Address) api.Word { return w.of(a).balance }

// Nonce is that of an address.
func (w *World) Nonce(a api.Address) uint64 { return w.of(a).nonce }

// Code is that of an address; false: it has none.
func (w *World) Code(a api.Address) (*valid.Code, bool) {
	code := w.of(a).code
	return code, code != nil
}

// Move moves a value.
func (w *World) Move(from, to api.Address, v api.Word) api.Errno {
	if word.Lt(w.Balance(from), v) {
		return api.ErrFunds
	}
	// One behind the other: so one that gives to itself has in the end what it had.
	w.less(from, v)
	w.more(to, v)
	return api.OK
}

// Take takes a value out of the world.
func (w *World) Take(a api.Address, v api.Word) api.Errno {
	if word.Lt(w.Balance(a), v) {
		return api.ErrFunds
	}
	w.less(a, v)
	w.sum = word.Sub(w.sum, v)
	return api.OK
}

// Put puts a value into the world.
func (w *World) Put(a api.Address, v api.Word) api.Errno {
	sum, ok := word.Sum(w.sum, v)
	if !ok {
		return api.ErrSum
	}
	w.more(a, v)
	w.sum = sum
	return api.OK
}

// less takes v from a balance that is known to have it.
func (w *World) less(a api.Address, v api.Word) {
	h := w.of(a)
	h.balance = word.Sub(h.balance, v)
	w.lay(a, h)
}

// more adds v to a balance. It does not wrap: all balances together, v among them, are below 2^256.
func (w *World) more(a api.Address, v api.Word) {
	h := w.of(a)
	h.balance = word.Add(h.balance, v)
	w.lay(a, h)
}

// Raise makes a nonce one more.
func (w *World) Raise(a api.Address) api.Errno {
	h := w.of(a)
	if h.nonce == math.MaxUint64 {
		return api.ErrTaken
	}
	h.nonce++
	w.lay(a, h)
	return api.OK
}

// Make makes the nonce 1, where nothing was made yet.
func (w *World) Make(a api.Address) api.Errno {
	h := w.of(a)
	if h.nonce != 0 || h.code != nil {
		return api.ErrTaken
	}
	h.nonce = 1
	w.lay(a, h)
	return api.OK
}

// Lay gives an address a code.
func (w *World) Lay(a api.Address, c *valid.Code) api.Errno {
	if c == nil {
		return api.ErrArg
	}
	if c.Kind() != api.Runtime || len(c.Bytes()) > api.MaxDeploy {
		return api.ErrCode
	}
	h := w.of(a)
	if h.code != nil {
		return api.ErrTaken
	}
	h.code = c
	w.lay(a, h)
	return api.OK
}
