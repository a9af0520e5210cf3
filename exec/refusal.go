package exec

import (
	"errors"

	"vouch/api"
	"vouch/valid"
)

// Refusal says why a message is refused.
type Refusal struct {
	Code   api.Errno
	At     int        // of the accounts
	Reject api.Reject // of the container to create with
}

// Error tells it in words.
func (r *Refusal) Error() string { return r.Code.Error() }

// Unwrap is its number.
func (r *Refusal) Unwrap() error { return r.Code }

// ofAccounts refuses a message for its accounts.
func ofAccounts(wrong api.Errno, at int) *Refusal { return &Refusal{Code: wrong, At: at} }

// ofMessage refuses it for itself. The run tells only that its container is why; what is wrong with that is asked here.
func ofMessage(wrong api.Errno, m api.Message) *Refusal {
	no := &Refusal{Code: wrong}
	if errors.Is(no, api.ErrInit) {
		_, no.Reject = valid.Validate(m.Init, api.Init)
	}
	return no
}
