package lean_test

import (
	"slices"
	"testing"

	"vouch/api"
	"vouch/flow"
	"vouch/lean"
	"vouch/valid"
)

// piece is an instruction, as the model reads it.
type piece struct {
	at, code int
	imm      []byte
	to       []int
}

// behind is the place behind it.
func (p piece) behind() int { return p.at + 1 + len(p.imm) }

// immediate is how many immediate bytes the instruction at the beginning of b has.
func immediate(b []byte) int {
	switch x := int(b[0]); {
	case 0x60 <= x && x <= 0x7f:
		return x - 0x5f
	case x == 0xd1 || x == 0xe0 || x == 0xe1 || x == 0xe3 || x == 0xe5:
		return 2
	case 0xe6 <= x && x <= 0xe8 || x == 0xec || x == 0xee:
		return 1
	case x == 0xe2:
		return 3 + 2*int(b[1])
	}
	return 0
}

// pieces are the instructions of a section that may run.
func pieces(b []byte) []piece {
	var all []piece
	for at := 0; at < len(b); {
		p := piece{at: at, code: int(b[at])}
		p.imm = b[at+1 : at+1+immediate(b[at:])]
		row := p.imm
		switch p.code {
		case 0xe2:
			row = row[1:]
			fallthrough
		case 0xe0, 0xe1:
			for i := 0; i < len(row); i += 2 {
				p.to = append(p.to, p.behind()+int(int16(uint16(row[i])<<8|uint16(row[i+1]))))
			}
		}
		all = append(all, p)
		at = p.behind()
	}
	return all
}

// ends: does nothing go on behind it?
func (p piece) ends() bool {
	return slices.Contains([]int{0x00, 0xe0, 0xe4, 0xe5, 0xee, 0xf3, 0xfd, 0xfe}, p.code)
}

// isLevel: is a section of a valid container level?
func isLevel(c api.Container, s int) bool {
	heights, _, _ := flow.Heights(c.Types, s, c.Codes[s])
	for _, h := range heights {
		if h.Lo != h.Hi {
			return false
		}
	}
	return len(c.Codes[s]) <= 32768
}

// What an instruction is idle for.
const (
	byNothing = iota
	byNop
	byNext
	byPair
	byJump
)

// whyIdle tells of each instruction of a level section for what it is idle.
func whyIdle(b []byte) []int {
	all := pieces(b)
	find := map[int]piece{}
	led := map[int]bool{}
	for _, p := range all {
		find[p.at] = p
		for _, to := range p.to {
			led[to] = true
		}
	}
	why := make([]int, len(all))
	for i, p := range all {
		switch {
		case p.code == 0x5b:
			why[i] = byNop
		case p.code == 0xe0 && p.to[0] == p.behind():
			why[i] = byNext
		case (0x5f <= p.code && p.code <= 0x8f || p.code == 0xe6) && all[i+1].code == 0x50 && !led[all[i+1].at]:
			why[i] = byPair
		case slices.ContainsFunc(p.to, func(to int) bool { return find[to].code == 0xe0 && find[to].to[0] != to }):
			why[i] = byJump
		}
	}
	return why
}

// isLean is the model of Is.
func isLean(c api.Container, kind int) bool {
	if valid.Judge(c, kind).Code != api.OK {
		return false
	}
	for s, b := range c.Codes {
		if isLevel(c, s) && slices.Max(whyIdle(b)) != byNothing {
			return false
		}
	}
	return true
}

// held holds what Lean makes of a valid container against all that must hold of it, and tells it.
func held(t testing.TB, c api.Container, kind int) api.Container {
	t.Helper()
	was := copyOf(c)
	d := leaned(t, c, kind)
	if !same(c, was) {
		t.Fatalf("%s: changed, to %s", told(was), told(c))
	}
	if got, want := lean.Is(c, kind), isLean(c, kind); got != want {
		t.Fatalf("%s: Is says %v", told(c), got)
	} else if want && !same(c, d) {
		t.Fatalf("%s is lean, and turned into %s", told(c), told(d))
	}
	if no := valid.Judge(d, kind); no.Code != api.OK {
		t.Fatalf("%s: turned into %s, which is not valid: %+v", told(c), told(d), no)
	}
	if !isLean(d, kind) || !lean.Is(d, kind) {
		t.Fatalf("%s: turned into %s, which is not lean; Is says %v", told(c), told(d), lean.Is(d, kind))
	}
	keeps(t, c, d)
	gains(t, c, d)
	if again := leaned(t, d, kind); !same(again, d) {
		t.Fatalf("%s: turned into %s, and this into %s", told(c), told(d), told(again))
	}
	return d
}

// keeps holds what a container has in common with what it was turned into, and that no section has grown.
func keeps(t testing.TB, c, d api.Container) {
	t.Helper()
	if len(c.Codes) != len(d.Codes) || len(c.Types) != len(d.Types) || c.Size != d.Size || string(c.Data) != string(d.Data) || !lists(c.Subs, d.Subs) {
		t.Fatalf("%s: turned into %s", told(c), told(d))
	}
	for s := range c.Codes {
		x, y := c.Types[s], d.Types[s]
		if x.In != y.In || x.Out != y.Out || y.Most > x.Most || len(d.Codes[s]) > len(c.Codes[s]) {
			t.Fatalf("%s: section %d: turned into %s", told(c), s, told(d))
		}
		if !isLevel(c, s) && (x != y || string(c.Codes[s]) != string(d.Codes[s])) {
			t.Fatalf("%s: section %d is not level: turned into %s", told(c), s, told(d))
		}
	}
}

// gains holds that of a container with something idle a level section gets shorter, or jumps elsewhere.
func gains(t testing.TB, c, d api.Container) {
	t.Helper()
	gained := same(c, d)
	for s := range c.Codes {
		if !isLevel(c, s) || string(c.Codes[s]) == string(d.Codes[s]) {
			continue
		}
		gained = true
		if len(c.Codes[s]) > len(d.Codes[s]) {
			continue
		}
		only := func(x, y piece) bool { return x.at == y.at && x.code == y.code && len(x.to) == len(y.to) }
		if !slices.EqualFunc(pieces(c.Codes[s]), pieces(d.Codes[s]), only) {
			t.Fatalf("%s: section %d is as long as it was, with other instructions: %s", told(c), s, told(d))
		}
	}
	if !gained {
		t.Fatalf("%s: nothing is gained: %s", told(c), told(d))
	}
}
