package fast

import (
	"slices"

	"vouch/api"
	"vouch/container"
	"vouch/gas"
	"vouch/mach"
	"vouch/world"
)

// refused is why there is no bare run of these.
func refused(w *world.World, c api.Container, f api.Frame) api.Errno {
	if w == nil {
		return api.ErrArg
	}
	if wrong := container.Check(c); wrong != api.OK {
		return wrong
	}
	if f.Kind != api.Runtime && f.Kind != api.Init || !mayBe(f) {
		return api.ErrArg
	}
	return api.OK
}

// mayBe: can a frame begin so, as to its depth, its gas and its block?
func mayBe(f api.Frame) bool {
	return f.Depth >= 0 && f.Depth < api.MaxDepth && f.Gas <= api.MaxGas && len(f.Block.Hashes) <= api.MaxHashes
}

// begun is a frame at section 0, place 0.
func begun(w *world.World, s source, given api.Frame) *frame {
	f := &frame{
		Stack:   mach.NewStack(),
		Memory:  mach.NewMemory(),
		returns: mach.NewReturns(),
		meter:   gas.NewMeter(given.Gas),
		world:   w,
		source:  s,
		given:   copyOfFrame(given),
		data:    s.data(),
		codes:   make([][]byte, s.sections()),
		does:    instructions(),
		state:   api.Going,
	}
	f.enter(api.Place{})
	return f
}

// copyOfFrame shares no list with f: whoever handed it in may write it over.
func copyOfFrame(f api.Frame) api.Frame {
	f.Input = slices.Clone(f.Input)
	f.Blobs = slices.Clone(f.Blobs)
	f.Block.Hashes = slices.Clone(f.Block.Hashes)
	return f
}

// copyOfContainer shares no list with c.
func copyOfContainer(c api.Container) api.Container {
	c.Types = slices.Clone(c.Types)
	c.Codes = copies(c.Codes)
	c.Subs = copies(c.Subs)
	c.Data = slices.Clone(c.Data)
	return c
}

// copies are the pieces once more, each of them too.
func copies(pieces [][]byte) [][]byte {
	out := make([][]byte, len(pieces))
	for i, piece := range pieces {
		out[i] = slices.Clone(piece)
	}
	return out
}
