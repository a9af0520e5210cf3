package audit

import (
	"sync"
	"sync/atomic"

	"vouch/api"
	"vouch/valid"
)

// audit is what the workers share. They only read the accounts.
type audit struct {
	coded    []api.Account // those that have code, in the order of the list
	taken    atomic.Int64  // how many of them the workers have asked for
	laying   sync.Mutex
	verdicts []api.Verdict // each where its account stands
}

// work judges one account after the other, till none is left that no worker has taken.
func (x *audit) work() {
	for place := x.next(); place < len(x.coded); place = x.next() {
		account := x.coded[place]
		_, no := valid.Validate(account.Code, api.Runtime)
		x.lay(place, api.Verdict{Address: account.Address, Reject: no})
	}
}

// next is the place of an account that is nobody else's to judge; or one behind all of them.
func (x *audit) next() int { return int(x.taken.Add(1)) - 1 }

// lay lays a verdict down where its account stands, whoever was done first: so the order is the list's.
func (x *audit) lay(place int, v api.Verdict) {
	x.laying.Lock()
	defer x.laying.Unlock()
	x.verdicts[place] = v
}
