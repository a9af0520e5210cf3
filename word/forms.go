package word

import "vouch/api"

// FromBytes: the number that bytes are.
func FromBytes(b []byte) (api.Word, api.Errno) {
	if len(b) > 32 {
		return api.Word{}, api.ErrLong
	}
	return gather(b), api.OK
}

// Bytes: its 32 bytes.
func Bytes(x api.Word) [32]byte {
	var b [32]byte
	for i := range b {
		b[31-i] = byte(x[i/8] >> uint(8*(i%8)))
	}
	return b
}

// FromUint is n as a word.
func FromUint(n uint64) api.Word { return api.Word{n} }

// Uint is x as a number of 64 bits; false: it has more.
func Uint(x api.Word) (uint64, bool) {
	if x != FromUint(x[0]) {
		return 0, false
	}
	return x[0], true
}

// FromAddress is an address as a word.
func FromAddress(a api.Address) api.Word { return gather(a[:]) }

// ToAddress is the address whose number x is; false: it is none's.
func ToAddress(x api.Word) (api.Address, bool) {
	var a api.Address
	if Size(x) > len(a) {
		return a, false
	}
	b := Bytes(x)
	copy(a[:], b[len(b)-len(a):])
	return a, true
}

// gather is the number that at most 32 bytes are.
func gather(b []byte) api.Word {
	var x api.Word
	for i, c := range b {
		at := len(b) - 1 - i
		x[at/8] |= uint64(c) << uint(8*(at%8))
	}
	return x
}
