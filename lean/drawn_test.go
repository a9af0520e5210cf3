package lean_test

import (
	"slices"
	"testing"

	"vouch/api"
	"vouch/valid"
)

var kinds = []int{api.Runtime, api.Init}

// 20.1 to 20.4, 20.6, W17: drawn containers of each kind, with several sections: each of the points, and walks through both.
func TestDrawn(t *testing.T) {
	g := draw(1)
	met := map[int]int{}
	leans, uneven, saved := 0, 0, 0
	for i := range 2400 {
		p := plan{kind: kinds[i%2], asks: i%3 == 0, uneven: pick(g, 0, 0, 3)}
		c := g.container(p)
		d := held(t, c, p.kind)
		goesAlike(t, g, c, d, 6)
		if same(c, d) {
			leans++
		}
		for s, b := range c.Codes {
			if saved += len(b) - len(d.Codes[s]); !isLevel(c, s) {
				uneven++
				continue
			}
			for _, why := range whyIdle(b) {
				met[why]++
			}
		}
	}
	for why := byNothing; why <= byJump; why++ {
		if met[why] < 1000 {
			t.Errorf("only %d of %d", met[why], why)
		}
	}
	if leans < 100 || uneven < 100 {
		t.Errorf("only %d lean ones, and %d sections that are not level", leans, uneven)
	}
	t.Log(met, leans, uneven, saved)
}

// section is the bytes of a section of drafts; their jumps lead to others by their numbers.
func section(drafts []draft) []byte {
	x := &sketch{drafts: drafts}
	for i := range drafts {
		x.begins = append(x.begins, i)
	}
	return x.laid()
}

// tight is a section in which most instructions jump, or are jumped to, as it comes.
func (g drawing) tight() []byte {
	n := 3 + g.IntN(12)
	to := func() int { return g.IntN(n) }
	if g.IntN(2) == 0 { // mostly a little further on, so that all is reached
		to = func() int { return (len(pick(g, "", "", "a", "a", "aa", "aaa")) + g.IntN(n)) % n }
	}
	var drafts []draft
	for range n - 1 {
		switch g.IntN(11) {
		case 0, 1:
			drafts = append(drafts, draft{raw("e0 0000"), []int{to()}})
		case 2, 3, 4:
			drafts = append(drafts, draft{raw("36 e1 0000"), []int{to()}})
		case 5, 6:
			all := make([]int, 1+g.IntN(6))
			for i := range all {
				all[i] = to()
			}
			drafts = append(drafts, draft{join([]byte{0x36, 0xe2, byte(len(all) - 1)}, make([]byte, 2*len(all))), all})
		case 7:
			drafts = append(drafts, draft{raw("5b"), nil})
		case 8:
			drafts = append(drafts, draft{raw("5f 50"), nil})
		case 9:
			drafts = append(drafts, draft{raw(pick(g, "5f", "34", "6001")), nil})
		default:
			drafts = append(drafts, draft{raw("50"), nil})
		}
	}
	if g.IntN(2) == 0 {
		return section(append(drafts, draft{raw("e0 0000"), []int{to()}}))
	}
	return section(append(drafts, draft{raw("fe"), nil}))
}

// 20.1 to 20.4, 20.6, W17: sections full of jumps, of which those are taken that are valid.
func TestTight(t *testing.T) {
	g := draw(2)
	met := map[int]int{}
	for valids := 0; valids < 4000; {
		c := fit(g.tight())
		if valid.Judge(c, api.Init).Code != api.OK || len(c.Codes[0]) < 12 {
			continue
		}
		valids++
		for _, why := range whyIdle(c.Codes[0]) {
			met[why]++
		}
		goesAlike(t, g, c, held(t, c, api.Init), 4)
	}
	for why := byNothing; why <= byJump; why++ {
		if met[why] < 500 {
			t.Errorf("only %d of %d", met[why], why)
		}
	}
	t.Log(met)
}

// each calls f with every row of so many drafts, the letters being what may stand at each place, and the ends what may stand at the last one.
func each(letters, ends []draft, n int, f func(drafts []draft)) {
	var fill func(drafts []draft)
	fill = func(drafts []draft) {
		if len(drafts) == n-1 {
			for _, end := range ends {
				f(append(slices.Clip(drafts), end))
			}
			return
		}
		for _, letter := range letters {
			fill(append(slices.Clip(drafts), letter))
		}
	}
	fill(nil)
}

// jumpsTo are drafts that end with a jump, to each of n.
func jumpsTo(n int, text string) []draft {
	var l []draft
	for to := range n {
		l = append(l, draft{raw(text), []int{to}})
	}
	return l
}

// 20.1 to 20.4, 20.6: all valid sections of a few instructions, with all ways to jump.
func TestAllShort(t *testing.T) {
	g := draw(3)
	plain := []draft{{raw("fe"), nil}, {raw("5f"), nil}, {raw("50"), nil}, {raw("5b"), nil}}
	valids, idle := 0, 0
	try := func(drafts []draft) {
		c := fit(section(drafts))
		if valid.Judge(c, api.Init).Code != api.OK {
			return
		}
		if valids++; !isLean(c, api.Init) {
			idle++
		}
		goesAlike(t, g, c, held(t, c, api.Init), 3)
	}
	for n := 1; n <= 5; n++ {
		each(slices.Concat(plain, jumpsTo(n, "e0 0000"), jumpsTo(n, "e1 0000")), append(jumpsTo(n, "e0 0000"), plain[0]), n, try)
		each(slices.Concat(plain[3:], jumpsTo(n, "e0 0000"), jumpsTo(n, "36 e1 0000")), append(jumpsTo(n, "e0 0000"), plain[0]), n, try)
	}
	if valids < 10000 || idle < 8000 {
		t.Errorf("only %d, of which %d are not lean", valids, idle)
	}
	t.Log(valids, idle)
}
