package audit_test

import (
	"testing"

	"vouch/api"
	"vouch/audit"
	"vouch/exec"
)

// The chapter's table 'Examples', row by row; A also has what it needs to be an account, and has not.
func TestExamples(t *testing.T) {
	for _, bare := range []api.Account{{Address: a}, at(a, 7, nil), {Address: a, Nonce: 1, Code: []byte{}}} {
		l := []api.Account{
			bare,
			at(b, 0, raw("ef000101000402000100 01 ff000000 00800000 00")),
			at(c, 0, raw("ef000101000402000100 02 ff000000 00800000 0000")),
			at(d, 0, raw("ef")),
		}
		got, wrong := audit.Audit(l, 3)
		if wrong != api.OK {
			t.Fatal(wrong)
		}
		alike(t, "A, B, C, D", got, []api.Verdict{{Address: b}, {Address: c, Reject: api.Reject{Code: api.ErrDead, At: 1}}, {Address: d, Reject: api.Reject{Code: api.ErrCut, At: 1}}})
		if got, wrong := audit.Audit(l[:1], 1); len(got) != 0 || wrong != api.OK {
			t.Errorf("A: %v, %d", got, wrong)
		}
		if got, wrong := audit.Audit(nil, 16); len(got) != 0 || wrong != api.OK {
			t.Errorf("nil: %v, %d", got, wrong)
		}
		for _, workers := range []int{0, 17} {
			if got, wrong := audit.Audit(l[1:2], workers); len(got) != 0 || wrong != api.ErrWorkers {
				t.Errorf("B by %d: %v, %d", workers, got, wrong)
			}
		}
	}
}

// DOC.md, 'Ten examples of the whole', the fourth: as accounts' codes, which are always asked for as Runtime.
func TestFourthExample(t *testing.T) {
	tells(t, "the fourth", []api.Account{
		at(e, 1, raw("ef00010100040200010002ff000000008000005000")),
		at(d, 1, raw("ef00010100040200010002ff000000008000000000")),
		at(c, 1, raw("ef00010100040200010004ff00000000800000e0000100")),
		at(b, 1, raw("ef00010100040200010001ff0000000080000000")),
		at(a, 1, raw("ef000101000802000200010001ff000000008000000000000000e4")),
	}, saying(e, no(70, 0, 0)), saying(d, no(73, 0, 1)), saying(c, no(63, 0, 0)), saying(b, no(0, 0, 0)), saying(a, no(87, 1, 0)))
}

// DOC.md, 'Ten examples of the whole', the eighth: the account that was made, by two workers.
func TestEighthExample(t *testing.T) {
	m := api.Message{From: a, Value: n(4), Gas: 50000, Make: true, Init: raw("ef0001010004020001000503000100000014ff0000000080000260025fee00ef00010100040200010001ff0000000080000000")}
	for _, engine := range engines {
		_, behind, err := exec.Execute([]api.Account{at(a, 9, nil)}, api.Block{}, m, engine)
		if err != nil {
			t.Fatal(err)
		}
		alike(t, engine, audited(t, engine, behind, 2), []api.Verdict{{Address: api.Address(raw("970bee9b608bbaae15058b5b6ce9522be23802be"))}})
	}
}
