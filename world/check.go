package world

import (
	"bytes"

	"vouch/api"
	"vouch/valid"
	"vouch/word"
)

// Check tells whether accounts are a world; else what is wrong, at which of the list.
func Check(l []api.Account) (api.Errno, int) {
	_, wrong, at := read(l)
	return wrong, at
}

// read asks all clauses of a list of accounts. It tells the code of each, nil where there is none; or the first clause that is broken.
func read(l []api.Account) ([]*valid.Code, api.Errno, int) {
	codes := make([]*valid.Code, len(l))
	for i, x := range l {
		if i > 0 && byAddress(l[i-1].Address, x.Address) >= 0 {
			return nil, api.ErrOrder, i
		}
		if wrong := alone(x); wrong != api.OK {
			return nil, wrong, i
		}
		code, wrong := codeOf(x.Code)
		if wrong != api.OK {
			return nil, wrong, i
		}
		codes[i] = code
	}
	if wrong, at := together(l); wrong != api.OK {
		return nil, wrong, at
	}
	return codes, api.OK, 0
}

// alone asks what is asked of one account by itself, ahead of its code.
func alone(x api.Account) api.Errno {
	switch {
	case x.Nonce == 0 && word.IsZero(x.Balance) && len(x.Code) == 0:
		return api.ErrEmpty
	case len(x.Code) == 0 && len(x.Slots) > 0:
		return api.ErrBare
	case !keysRise(x.Slots):
		return api.ErrOrder
	case holdsNothing(x.Slots):
		return api.ErrEmpty
	}
	return api.OK
}

func keysRise(l []api.Slot) bool {
	for i := 1; i < len(l); i++ {
		if bySlot(l[i-1], l[i]) >= 0 {
			return false
		}
	}
	return true
}

// holdsNothing: is there a word 0, which is no slot?
func holdsNothing(l []api.Slot) bool {
	for _, s := range l {
		if word.IsZero(s.Value) {
			return true
		}
	}
	return false
}

// codeOf is the code that an account's bytes are, nil of no bytes.
func codeOf(b []byte) (*valid.Code, api.Errno) {
	if len(b) == 0 {
		return nil, api.OK
	}
	if len(b) > api.MaxDeploy {
		return nil, api.ErrCode
	}
	code, no := valid.Validate(b, api.Runtime)
	if no.Code != api.OK {
		return nil, api.ErrCode
	}
	return code, api.OK
}

// together asks what is asked of all accounts: their balances are below 2^256.
func together(l []api.Account) (api.Errno, int) {
	var sum api.Word
	for i, x := range l {
		more, ok := word.Sum(sum, x.Balance)
		if !ok {
			return api.ErrSum, i
		}
		sum = more
	}
	return api.OK, 0
}

func byAddress(a, b api.Address) int { return bytes.Compare(a[:], b[:]) }

func bySlot(a, b api.Slot) int { return word.Cmp(a.Key, b.Key) }
