package script

import "vouch/api"

// command does a line; the words are those behind its first one.
type command func(s *shell, words []string) api.Errno

// commands are what a line's first word may be.
func commands() map[string]command {
	return map[string]command{
		"account": (*shell).putAccount,
		"code":    (*shell).putCode,
		"slot":    (*shell).putSlot,
		"drop":    (*shell).dropAccount,
		"block":   (*shell).setBlock,
		"hash":    (*shell).addHash,
		"engine":  (*shell).setEngine,
		"world":   (*shell).tellWorld,
		"call":    (*shell).callTo,
		"still":   (*shell).callStill,
		"make":    (*shell).makeOne,
		"trace":   (*shell).traceSteps,
		"judge":   (*shell).judgeCode,
		"print":   (*shell).printCode,
		"audit":   (*shell).auditAll,
	}
}

// setBlock sets all of the block but its hashes.
func (s *shell) setBlock(words []string) api.Errno {
	b := api.Block{Hashes: s.block.Hashes}
	if !read(words, number{&b.Number}, number{&b.Time}, address{&b.Coinbase}, value{&b.Random}, number{&b.Limit}, value{&b.Chain}, value{&b.Base}, value{&b.BlobBase}) {
		return api.ErrLine
	}
	s.block = b
	return api.OK
}

// addHash lays one more hash behind the block's others.
func (s *shell) addHash(words []string) api.Errno {
	var h api.Hash
	if !read(words, hash{&h}) {
		return api.ErrLine
	}
	s.block.Hashes = append(s.block.Hashes, h)
	return api.OK
}

// setEngine says by which machine messages run from now on.
func (s *shell) setEngine(words []string) api.Errno {
	if !read(words, engine{&s.engine}) {
		return api.ErrLine
	}
	return api.OK
}
