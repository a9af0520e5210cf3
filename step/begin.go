package step

import (
	"slices"

	"vouch/api"
	"vouch/container"
	"vouch/world"
)

// refused is why there is no run of these.
func refused(w *world.World, c api.Container, f api.Frame) api.Errno {
	if w == nil {
		return api.ErrArg
	}
	if wrong := container.Check(c); wrong != api.OK {
		return wrong
	}
	if f.Kind != api.Runtime && f.Kind != api.Init || f.Depth < 0 || f.Depth >= api.MaxDepth || f.Gas > api.MaxGas || len(f.Block.Hashes) > api.MaxHashes {
		return api.ErrArg
	}
	return api.OK
}

// copyOfContainer shares no list with c: whoever handed it in may write it over.
func copyOfContainer(c api.Container) api.Container {
	c.Types = slices.Clone(c.Types)
	c.Codes = copies(c.Codes)
	c.Subs = copies(c.Subs)
	c.Data = slices.Clone(c.Data)
	return c
}

// copyOfFrame shares no list with f.
func copyOfFrame(f api.Frame) api.Frame {
	f.Input = slices.Clone(f.Input)
	f.Blobs = slices.Clone(f.Blobs)
	f.Block.Hashes = slices.Clone(f.Block.Hashes)
	return f
}

// copies are the pieces once more, each of them too.
func copies(pieces [][]byte) [][]byte {
	out := make([][]byte, len(pieces))
	for i, piece := range pieces {
		out[i] = slices.Clone(piece)
	}
	return out
}
