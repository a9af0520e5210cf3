package call

import (
	"math"
	"slices"

	"vouch/api"
	"vouch/valid"
	"vouch/word"
	"vouch/world"
)

// looked is why a message is refused; if it is not, and makes an account, what that is made with.
func looked(w *world.World, b api.Block, m api.Message, engine int) (*valid.Code, api.Errno) {
	switch {
	case w == nil || engine != api.Checked && engine != api.Fast || m.Gas > api.MaxGas:
		return nil, api.ErrArg
	case len(b.Hashes) > api.MaxHashes:
		return nil, api.ErrBlock
	case m.Still && (m.Make || !word.IsZero(m.Value)):
		return nil, api.ErrStill
	case word.Lt(w.Balance(m.From), m.Value):
		return nil, api.ErrFunds
	case m.Make:
		return lookedAtMake(w, m)
	}
	return nil, api.OK
}

// lookedAtMake is likewise what is asked of a message that makes an account alone.
func lookedAtMake(w *world.World, m api.Message) (*valid.Code, api.Errno) {
	if len(m.Init) > api.MaxInit {
		return nil, api.ErrInit
	}
	start, no := valid.Validate(m.Init, api.Init)
	if no.Code != api.OK {
		return nil, api.ErrInit
	}
	if w.Nonce(m.From) == math.MaxUint64 || taken(w, Made(m.From, m.Salt)) {
		return nil, api.ErrTaken
	}
	return start, api.OK
}

// taken: can nothing be made at an address?
func taken(w *world.World, a api.Address) bool {
	_, coded := w.Code(a)
	return coded || w.Nonce(a) != 0
}

// askOf is what a message asks for, as a frame would: the first frame begins like any other.
func askOf(m api.Message) api.Ask {
	x := api.Ask{Kind: api.AskCall, To: m.To, Value: m.Value, Input: m.Input, Gas: m.Gas}
	if m.Make {
		x.Kind, x.To, x.Salt = api.AskMake, api.Address{}, m.Salt
	}
	return x
}

// senderOf is who asks for it: as a frame that is From's and stands below the first one. Its lists are its own: frames take them long behind New.
func senderOf(b api.Block, m api.Message, start *valid.Code) asker {
	b.Hashes = slices.Clone(b.Hashes)
	return asker{
		given: api.Frame{
			Self:   m.From,
			Origin: m.From,
			Price:  m.Price,
			Still:  m.Still,
			Depth:  -1,
			Blobs:  slices.Clone(m.Blobs),
			Block:  b,
		},
		sub: func(int) (*valid.Code, api.Errno) { return start, api.OK },
	}
}
