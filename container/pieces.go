package container

import (
	"bytes"

	"vouch/api"
)

// checkPieces: has each of them a byte, and none too many?
func checkPieces(pieces [][]byte, most uint64) api.Errno {
	for _, piece := range pieces {
		if len(piece) == 0 {
			return api.ErrNone
		}
		if uint64(len(piece)) > most {
			return api.ErrLong
		}
	}
	return api.OK
}

// copies are the pieces once more, each of them too.
func copies(pieces [][]byte) [][]byte {
	out := make([][]byte, len(pieces))
	for i, piece := range pieces {
		out[i] = bytes.Clone(piece)
	}
	return out
}

// writePieces puts them behind b, one behind the other.
func writePieces(b []byte, pieces [][]byte) []byte {
	for _, piece := range pieces {
		b = append(b, piece...)
	}
	return b
}
