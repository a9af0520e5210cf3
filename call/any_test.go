package call_test

import (
	"math"
	"testing"

	"vouch/api"
	"vouch/call"
	"vouch/word"
)

// any is a block, a message and an engine of any numbers and bytes.
func (g drawing) any() (api.Block, api.Message, int) {
	numbers := []uint64{0, 1, 50, 100, 101, 60000, api.MaxGas, api.MaxGas + 1, math.MaxUint64}
	words := []api.Word{{}, n(1), n(100), {0, 1}, word.Not(n(0))}
	hashes := func(size int) []api.Hash { return make([]api.Hash, size) }
	m := api.Message{
		From:  pick(g, a, a, b, pick(g, known...), api.Address(g.bytes(20))),
		To:    pick(g, b, b, c, pick(g, known...), api.Address(g.bytes(20))),
		Value: pick(g, n(0), n(0), pick(g, words...)),
		Input: g.bytes(pick(g, 0, 1, 1000)),
		Gas:   min(pick(g, numbers...), pick(g, uint64(60000), 60000, 60000, math.MaxUint64)),
		Price: pick(g, words...),
		Blobs: hashes(pick(g, 0, 1, 700)),
		Still: g.IntN(4) == 0,
		Make:  g.IntN(3) == 0,
		Init:  pick(g, nil, g.bytes(g.IntN(60)), maker(), coded(stop), make([]byte, api.MaxInit+1)),
		Salt:  pick(g, words...),
	}
	block := api.Block{
		Number: pick(g, numbers...), Time: pick(g, numbers...), Coinbase: pick(g, known...), Random: pick(g, words...), Limit: pick(g, numbers...),
		Chain: pick(g, words...), Base: pick(g, words...), BlobBase: pick(g, words...), Hashes: hashes(pick(g, 0, 1, api.MaxHashes, api.MaxHashes, api.MaxHashes+1)),
	}
	return block, m, pick(g, api.Checked, api.Fast, api.Checked, api.Fast, 0, 3, -1, math.MinInt, math.MaxInt)
}

// R1, R2, R4: no call panics, whatever it is given; a run and an error are never there at once; the same once more answers the same, over a world like the other.
func TestAnyArguments(t *testing.T) {
	g := draw(141)
	// C tells what block and message say
	asks := raw("6001 43 03 40 5f 52 5f 49 50 61ffff 49 50 41 50 42 50 43 50 44 50 45 50 46 50 48 50 4a 50 3a 50 5f 35 50 36 50 34 50 6020 5f f3")
	taken := 0
	for range 3000 {
		l := []api.Account{rich, at(b, 5, with(nest(maker()), makes(0, 1, 1), drop, calls(c, 1), drop, upwards)), at(c, 0, coded(asks))}
		block, m, engine := g.any()
		w, twin := made(t, l...), made(t, l...)
		x, wrong := call.New(w, block, m, engine)
		y, again := call.New(twin, block, m, engine)
		if wrong != again || (x == nil) != (wrong != api.OK) || (y == nil) != (x == nil) {
			t.Fatalf("New: %v, %v", wrong, again)
		}
		if x == nil {
			continue
		}
		taken++
		for !hasEnded(x) {
			steps := pick(g, 0, 1, 5, -1, math.MinInt, math.MaxInt)
			here, _ := x.Next()
			there, _ := y.Next()
			if here != there || x.Go(steps) != y.Go(steps) {
				t.Fatalf("Next: %+v, %+v", here, there)
			}
		}
		first, _ := x.Ended()
		second, ended := y.Ended()
		if !ended || !alike(first, second) || told(w) != told(twin) || x.Go(math.MaxInt) != 0 || x.Go(math.MinInt) != 0 {
			t.Fatalf("%+v, %+v", first, second)
		}
	}
	if taken < 300 {
		t.Errorf("only %d were taken", taken)
	}
}

// hasEnded: has a run?
func hasEnded(r *call.Run) bool {
	_, ended := r.Ended()
	return ended
}
