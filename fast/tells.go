package fast

import (
	"vouch/api"
	"vouch/word"
)

func (f *frame) self()           { f.Put(word.FromAddress(f.given.Self)) }
func (f *frame) origin()         { f.Put(word.FromAddress(f.given.Origin)) }
func (f *frame) caller()         { f.Put(word.FromAddress(f.given.Caller)) }
func (f *frame) callValue()      { f.Put(f.given.Value) }
func (f *frame) gasPrice()       { f.Put(f.given.Price) }
func (f *frame) callDataSize()   { f.Put(count(len(f.given.Input))) }
func (f *frame) returnDataSize() { f.Put(count(len(f.returnData))) }
func (f *frame) dataSize()       { f.Put(count(len(f.data))) }
func (f *frame) mSize()          { f.Put(count(f.Memory.Len())) }
func (f *frame) selfBalance()    { f.Put(f.world.Balance(f.given.Self)) }

func (f *frame) coinbase()    { f.Put(word.FromAddress(f.given.Block.Coinbase)) }
func (f *frame) timestamp()   { f.Put(word.FromUint(f.given.Block.Time)) }
func (f *frame) number()      { f.Put(word.FromUint(f.given.Block.Number)) }
func (f *frame) prevRandao()  { f.Put(f.given.Block.Random) }
func (f *frame) gasLimit()    { f.Put(word.FromUint(f.given.Block.Limit)) }
func (f *frame) chainID()     { f.Put(f.given.Block.Chain) }
func (f *frame) baseFee()     { f.Put(f.given.Block.Base) }
func (f *frame) blobBaseFee() { f.Put(f.given.Block.BlobBase) }

func (f *frame) blockHash() {
	block, small := word.Uint(f.Take())
	now := f.given.Block.Number
	if !small || block >= now {
		f.Put(api.Word{})
		return
	}
	f.Put(hashAt(f.given.Block.Hashes, now-1-block))
}

func (f *frame) blobHash() {
	n, small := word.Uint(f.Take())
	if !small {
		f.Put(api.Word{})
		return
	}
	f.Put(hashAt(f.given.Blobs, n))
}

// hashAt is the hash of that number as a word; 0, if there is none.
func hashAt(l []api.Hash, n uint64) api.Word {
	if n >= uint64(len(l)) {
		return api.Word{}
	}
	return wordOf(l[n][:])
}
