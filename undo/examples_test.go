package undo_test

import (
	"testing"

	"vouch/api"
	"vouch/undo"
)

// The chapter's table 'Examples', row by row; one table.
func TestExamples(t *testing.T) {
	x := undo.New[int, int]()
	wantGet(t, x, 1, 0, false)

	x.Set(1, 10)
	if m := x.Mark(); m != 0 {
		t.Errorf("the first mark: %d", m)
	}

	x.Set(1, 11)
	x.Set(2, 20)
	if m := x.Mark(); m != 1 {
		t.Errorf("the second mark: %d", m)
	}

	if !x.Delete(1) || x.Delete(1) {
		t.Error("Delete(1), twice")
	}
	wantKeys(t, x, 2)

	wantErrno(t, x.Back(2), api.ErrMark)
	wantErrno(t, x.Back(-1), api.ErrMark)
	wantErrno(t, x.Forget(2), api.ErrMark)

	wantErrno(t, x.Back(1), api.OK)
	wantGet(t, x, 1, 11, true)
	if x.Marks() != 1 {
		t.Errorf("behind Back(1): %d marks", x.Marks())
	}

	wantErrno(t, x.Back(1), api.ErrMark)

	if m := x.Mark(); m != 1 {
		t.Errorf("the second mark anew: %d", m)
	}
	x.Set(3, 30)
	wantErrno(t, x.Forget(1), api.OK)
	if x.Marks() != 1 {
		t.Errorf("behind Forget(1): %d marks", x.Marks())
	}
	wantKeys(t, x, 1, 2, 3)

	wantErrno(t, x.Back(0), api.OK)
	wantKeys(t, x, 1)
	wantGet(t, x, 1, 10, true)
	if x.Marks() != 0 {
		t.Errorf("behind Back(0): %d marks", x.Marks())
	}
}
