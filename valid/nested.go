package valid

import (
	"slices"

	"vouch/api"
	"vouch/container"
)

// within is C7: it judges nested containers, one by one, by what names each; path leads to the one in which they lie.
func within(uses []use, subs [][]byte, path []int) api.Reject {
	for n, b := range subs {
		if no := nested(b, uses[n], append(path, n)); no.Code != api.OK {
			return no
		}
	}
	return api.Reject{}
}

// nested judges a container that lies in another one, and what is nested in it.
func nested(b []byte, as use, path []int) api.Reject {
	uses, subs, no := opened(b, as)
	if no.Code != api.OK {
		no.Path = slices.Concat(path, no.Path)
		return no
	}
	return within(uses, subs, path)
}

// opened parses a nested container and judges it alone; it tells the containers in it, as pieces of b, and what names them.
func opened(b []byte, as use) ([]use, [][]byte, api.Reject) {
	c, no := container.Parse(b, as.laid)
	if no.Code != api.OK {
		return nil, nil, no
	}
	uses, no := alone(c, as.kind())
	if no.Code != api.OK {
		return nil, nil, no
	}
	return uses, piecesOf(b, c), api.Reject{}
}

// piecesOf is where the nested containers of c stand in b, its bytes. What Parse has copied would be held once for each container around it, as long as these are judged: too much, where many are nested in one another.
func piecesOf(b []byte, c api.Container) [][]byte {
	pieces := make([][]byte, len(c.Subs))
	end := len(b) - len(c.Data)
	for n, sub := range slices.Backward(c.Subs) {
		pieces[n] = b[end-len(sub) : end]
		end -= len(sub)
	}
	return pieces
}
