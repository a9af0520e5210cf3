package call_test

import (
	"testing"

	"vouch/api"
	"vouch/call"
	"vouch/sponge"
	"vouch/word"
)

// 14.1: addresses that are known.
func TestMade(t *testing.T) {
	top := api.Word{1<<64 - 1, 1<<64 - 1, 1<<64 - 1, 1<<64 - 1}
	long, _ := word.Parse("0x2122232425262728292a2b2c2d2e2f303132333435363738393a3b3c3d3e3f40")
	for _, row := range []struct {
		by   string
		salt api.Word
		want string
	}{
		{"000000000000000000000000000000000000000a", n(0), "970bee9b608bbaae15058b5b6ce9522be23802be"},
		{"0000000000000000000000000000000000000000", n(0), "47f3f8f550f58348651c4c3e8ccd414b35d2e9fc"},
		{"000000000000000000000000000000000000000a", n(1), "f50281adc5d88a57c1c11cf15c3ca13925ec6fa7"},
		{"000000000000000000000000000000000000000b", n(0), "b712ae7f8cf952ab0a571494217709b226d0f619"},
		{"ffffffffffffffffffffffffffffffffffffffff", top, "de375663009104031424e5794ed3b4696f28987d"},
		{"0102030405060708090a0b0c0d0e0f1011121314", long, "37f1311dfde96e6e4c706451d157145bb33e36ad"},
		{"0000000000000000000000000000000000000000", api.Word{3: 1}, "d8452c88d1d2e8c80a663e922fa69b3a3b5570d5"},
	} {
		if got := call.Made(api.Address(raw(row.by)), row.salt); got != api.Address(raw(row.want)) {
			t.Errorf("Made(%s, %v): %x, not %s", row.by, row.salt, got, row.want)
		}
	}
}

// 14.1, R4: the 65 bytes of drawn ones, hashed as one piece; unlike bys and salts have unlike addresses, also where one bit is another one; the same call answers the same.
func TestMadeOfDrawnOnes(t *testing.T) {
	g := draw(141)
	seen := map[api.Address]bool{}
	for range 200 {
		by := api.Address(g.bytes(20))
		salt := api.Word{g.Uint64(), g.Uint64(), g.Uint64(), g.Uint64()}
		row := make([]byte, 65)
		row[0] = 0xff
		copy(row[13:], by[:])
		last := word.Bytes(salt)
		copy(row[33:], last[:])
		hash := sponge.Sum(row)
		got := call.Made(by, salt)
		if got != api.Address(hash[12:]) || got != call.Made(by, salt) {
			t.Fatalf("Made(%x, %v): %x", by, salt, got)
		}
		otherBy, otherSalt := by, salt
		otherBy[g.IntN(20)] ^= 1 << g.IntN(8)
		otherSalt[g.IntN(4)] ^= 1 << g.IntN(64)
		for _, x := range []api.Address{got, call.Made(otherBy, salt), call.Made(by, otherSalt), call.Made(otherBy, otherSalt)} {
			if seen[x] {
				t.Fatalf("%x twice", x)
			}
			seen[x] = true
		}
	}
}
