package lean_test

import (
	"testing"

	"vouch/api"
)

// turnedBig holds the ends of what is made of a great section: lean, valid, and so many bytes long.
func turnedBig(t *testing.T, what string, drafts []draft, want int) {
	t.Helper()
	c := fit(section(drafts))
	if size := len(c.Codes[0]); size > 32768 || size < 20000 {
		t.Fatalf("%s: %d bytes", what, size)
	}
	d := leaned(t, c, api.Init)
	if !isLean(d, api.Init) || len(d.Codes[0]) != want {
		t.Errorf("%s: %d bytes of %d are left, not %d", what, len(d.Codes[0]), len(c.Codes[0]), want)
	}
	goesAlike(t, draw(11), c, d, 2)
}

// Drafts: an end, an instruction, a jump, and one that may be chosen.
func stuckDraft() draft         { return draft{raw("fe"), nil} }
func plainDraft(s string) draft { return draft{raw(s), nil} }
func jumpDraft(to int) draft    { return draft{raw("e0 0000"), []int{to}} }
func choiceDraft(to int) draft  { return draft{raw("36 e1 0000"), []int{to}} }

// R1, 20.3: great sections in which one thing leads to another as often as may be; each is done in a moment.
func TestBig(t *testing.T) {
	const many = 4000
	var l []draft
	// jumps to each RJUMP of a row of them, each of which leads to the next one
	for i := range many {
		l = append(l, choiceDraft(many+1+i))
	}
	l = append(l, stuckDraft())
	for i := range many {
		l = append(l, jumpDraft(many+2+i))
	}
	turnedBig(t, "a row that leads on", append(l, stuckDraft()), 4*many+2)
	// the same, each leading to the one ahead of it
	l = l[: many+1 : many+1]
	l = append(l, jumpDraft(2*many+1))
	for i := range many - 1 {
		l = append(l, jumpDraft(many+1+i))
	}
	turnedBig(t, "a row that leads back", append(l, stuckDraft()), 4*many+2)
	// one circle of all of them
	l[many+1] = jumpDraft(2 * many)
	turnedBig(t, "a circle", l, 4*many+4)
	// jumps to each NOP of a row
	l = l[:0:0]
	for i := range 6000 {
		l = append(l, choiceDraft(6000+i))
	}
	for range 6000 {
		l = append(l, plainDraft("5b"))
	}
	turnedBig(t, "NOPs that are led to", append(l, stuckDraft()), 4*6000+1)
}

// R1, 20.3: pairs within pairs, with RJUMPs over what they hold, and jumps into it: each is idle when what it holds is gone.
func TestBigNest(t *testing.T) {
	const deep = 2000
	var l []draft
	// the choices, each into one level; of one level: PUSH0, RJUMP to its POP, the level within (the innermost one holds none), POP, RJUMP to the end
	end := deep + 2*deep + 2*deep
	for i := range deep {
		l = append(l, choiceDraft(deep+2*i))
	}
	for i := range deep {
		l = append(l, plainDraft("5f"), jumpDraft(end-2*i-2))
	}
	for range deep {
		l = append(l, plainDraft("50"), jumpDraft(end))
	}
	turnedBig(t, "a nest", append(l, stuckDraft()), 4*deep+1)
}
