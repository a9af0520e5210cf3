package script

import (
	"bytes"
	"slices"

	"vouch/api"
	"vouch/word"
)

// find tells where an account stands, or would stand, and whether it does.
func (s *shell) find(a api.Address) (int, bool) {
	return slices.BinarySearchFunc(s.accounts, a, func(x api.Account, a api.Address) int { return bytes.Compare(x.Address[:], a[:]) })
}

// putAccount makes an account, or gives one that is there this nonce and balance.
func (s *shell) putAccount(words []string) api.Errno {
	var x api.Account
	if !read(words, address{&x.Address}, number{&x.Nonce}, value{&x.Balance}) {
		return api.ErrLine
	}
	if i, there := s.find(x.Address); there {
		s.accounts[i].Nonce, s.accounts[i].Balance = x.Nonce, x.Balance
	} else {
		s.accounts = slices.Insert(s.accounts, i, x)
	}
	return api.OK
}

// putCode gives an account code, whatever it is: only a message asks whether it is right.
func (s *shell) putCode(words []string) api.Errno {
	var a api.Address
	var code []byte
	if !read(words, address{&a}, row{&code}) {
		return api.ErrLine
	}
	i, there := s.find(a)
	if !there {
		return api.ErrName
	}
	s.accounts[i].Code = code
	return api.OK
}

// putSlot sets a slot of an account, or takes it away.
func (s *shell) putSlot(words []string) api.Errno {
	var a api.Address
	var slot api.Slot
	if !read(words, address{&a}, value{&slot.Key}, value{&slot.Value}) {
		return api.ErrLine
	}
	i, there := s.find(a)
	if !there {
		return api.ErrName
	}
	s.accounts[i].Slots = withSlot(s.accounts[i].Slots, slot)
	return api.OK
}

// withSlot is the slots with this one, in the place of the one with its key: or without it, if its value is 0.
func withSlot(slots []api.Slot, slot api.Slot) []api.Slot {
	i, there := slices.BinarySearchFunc(slots, slot.Key, func(x api.Slot, key api.Word) int { return word.Cmp(x.Key, key) })
	behind := i
	if there {
		behind++
	}
	if word.IsZero(slot.Value) {
		return slices.Delete(slots, i, behind)
	}
	return slices.Replace(slots, i, behind, slot)
}

// dropAccount takes an account away.
func (s *shell) dropAccount(words []string) api.Errno {
	var a api.Address
	if !read(words, address{&a}) {
		return api.ErrLine
	}
	i, there := s.find(a)
	if !there {
		return api.ErrName
	}
	s.accounts = slices.Delete(s.accounts, i, i+1)
	return api.OK
}

// tellWorld tells all accounts, as lines that make them.
func (s *shell) tellWorld(words []string) api.Errno {
	if !read(words) {
		return api.ErrLine
	}
	for _, x := range s.accounts {
		a := addressText(x.Address)
		s.tell("account", a, numberText(x.Nonce), word.Text(x.Balance))
		if len(x.Code) > 0 {
			s.tell("code", a, rowText(x.Code))
		}
		for _, slot := range x.Slots {
			s.tell("slot", a, word.Hex(slot.Key), word.Hex(slot.Value))
		}
	}
	return api.OK
}
