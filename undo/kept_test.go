package undo_test

import (
	"runtime"
	"testing"
	"weak"

	"vouch/undo"
)

type big [64]int

type bigTable = undo.Table[int, *big]

// lay sets the key 1 to a new value that only the table holds; what it answers tells whether the table still does.
func lay(x *bigTable) weak.Pointer[big] {
	v := new(big)
	x.Set(1, v)
	return weak.Make(v)
}

// A value that is gone is let go when no mark is left that it was changed behind; one that Back may lead to is held. (While a mark stands, each change behind it is kept.)
func TestNoMoreIsKept(t *testing.T) {
	rows := map[string]struct {
		ahead, behind func(x *bigTable)
		held          bool
	}{
		"there":                        {func(x *bigTable) {}, func(x *bigTable) {}, true},
		"deleted":                      {func(x *bigTable) {}, func(x *bigTable) { x.Delete(1) }, false},
		"deleted, not the last":        {func(x *bigTable) {}, func(x *bigTable) { x.Set(2, nil); x.Delete(1) }, false},
		"set over":                     {func(x *bigTable) {}, func(x *bigTable) { x.Set(1, nil) }, false},
		"gone back from":               {func(x *bigTable) { x.Mark() }, func(x *bigTable) { x.Back(0) }, false},
		"deleted and gone back from":   {func(x *bigTable) { x.Mark() }, func(x *bigTable) { x.Delete(1); x.Back(0) }, false},
		"set over and gone back from":  {func(x *bigTable) { x.Mark() }, func(x *bigTable) { x.Set(1, nil); x.Back(0) }, false},
		"behind a mark forgotten":      {func(x *bigTable) { x.Mark() }, func(x *bigTable) { x.Forget(0) }, true},
		"deleted, the mark forgotten":  {func(x *bigTable) { x.Mark() }, func(x *bigTable) { x.Delete(1); x.Forget(0) }, false},
		"set over, the mark forgotten": {func(x *bigTable) { x.Mark() }, func(x *bigTable) { x.Set(1, nil); x.Forget(0) }, false},
		"deleted behind a mark":        {func(x *bigTable) {}, func(x *bigTable) { x.Mark(); x.Mark(); x.Delete(1); x.Forget(1) }, true},
		"set over behind a mark":       {func(x *bigTable) {}, func(x *bigTable) { x.Mark(); x.Mark(); x.Set(1, nil); x.Forget(1) }, true},
	}
	for name, r := range rows {
		x := undo.New[int, *big]()
		r.ahead(x)
		v := lay(x)
		r.behind(x)
		runtime.GC()
		if held := v.Value() != nil; held != r.held {
			t.Errorf("%s: held %v", name, held)
		}
		runtime.KeepAlive(x)
	}
}
