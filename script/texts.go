package script

import (
	"strconv"

	"vouch/api"
)

func numberText(n uint64) string { return strconv.FormatUint(n, 10) }

func addressText(a api.Address) string { return rowText(a[:]) }

// rowText is bytes as they are read again.
func rowText(b []byte) string {
	const digits = "0123456789abcdef"
	text := make([]byte, 2, 2+2*len(b))
	copy(text, "0x")
	for _, x := range b {
		text = append(text, digits[x>>4], digits[x&15])
	}
	return string(text)
}
