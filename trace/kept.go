package trace

import (
	"slices"

	"vouch/api"
)

// kept is what a run is begun with, in lists that are nobody else's: whoever has called may write the own ones over. It is not changed, so that many runs may be begun with it at one time.
type kept struct {
	accounts []api.Account
	block    api.Block
	message  api.Message
}

// keep keeps a copy of what was handed in.
func keep(l []api.Account, b api.Block, m api.Message) kept {
	b.Hashes = slices.Clone(b.Hashes)
	m.Input, m.Blobs, m.Init = slices.Clone(m.Input), slices.Clone(m.Blobs), slices.Clone(m.Init)
	l = slices.Clone(l)
	for i, x := range l {
		l[i].Code, l[i].Slots = slices.Clone(x.Code), slices.Clone(x.Slots)
	}
	return kept{accounts: l, block: b, message: m}
}
