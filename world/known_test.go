package world_test

import (
	"math"
	"testing"

	"vouch/api"
)

// 11.9: an address, or a slot, is cold once and then warm; neither has to do with the other, nor with any that differs a little.
func TestWarmOnce(t *testing.T) {
	w := made(t, wide()...)
	for _, a := range addresses() {
		for _, k := range keys() {
			if w.WarmSlot(a, k) || !w.WarmSlot(a, k) || !w.WarmSlot(a, k) {
				t.Errorf("the slot %x, %x", a, k)
			}
		}
	}
	for _, a := range addresses() {
		if w.Warm(a) || !w.Warm(a) || !w.Warm(a) {
			t.Errorf("the address %x", a)
		}
	}
	w.Begin()
	for _, a := range addresses() {
		if w.Warm(a) {
			t.Errorf("the address %x, behind Begin", a)
		}
	}
	for _, a := range addresses() {
		for _, k := range keys() {
			if w.WarmSlot(a, k) {
				t.Errorf("the slot %x, %x, though its address alone is warm", a, k)
			}
		}
	}
}

// 11.9: nothing else warms anything, but Begin.
func TestNothingElseWarms(t *testing.T) {
	w := made(t, wide()...)
	cold := warmth(w)
	told(w)
	stage(noWarm{w})
	w.Forget(0)
	if got := warmth(w); got != cold {
		t.Errorf("warm: %s", got)
	}
	w.Begin(addresses()...)
	if got := warmth(w); got == cold {
		t.Error("Begin warms nothing")
	}
	w.Begin()
	if got := warmth(w); got != cold {
		t.Errorf("behind Begin of nothing warm: %s", got)
	}
}

// noWarm is a world at which nothing is made warm.
type noWarm struct{ asked }

func (noWarm) Warm(api.Address) bool               { return false }
func (noWarm) WarmSlot(api.Address, api.Word) bool { return false }

// 11.10: logs stand in order, as they are, with any number of topics.
func TestLogs(t *testing.T) {
	w := made(t)
	var want []api.Log
	for i := range 40 {
		x := api.Log{Address: full(byte(i)), Topics: make([]api.Word, i%9), Data: make([]byte, i*i)}
		for j := range x.Topics {
			x.Topics[j] = api.Word{uint64(i), uint64(j), 1, 2}
		}
		for j := range x.Data {
			x.Data[j] = byte(i + j)
		}
		w.Tell(x)
		want = append(want, x)
		if got := logsText(w.Logs()); got != logsText(want) {
			t.Fatalf("logs %s, not %s", got, logsText(want))
		}
	}
	w.Tell(want[3]) // the same once more
	if got := w.Logs(); len(got) != 41 || logsText(got[40:]) != logsText(want[3:4]) {
		t.Errorf("the same once more: %s", logsText(got))
	}
	w.Begin()
	if got := w.Logs(); len(got) != 0 {
		t.Errorf("behind Begin: %s", logsText(got))
	}
}

// 11.10: logs that are told behind Back stand behind those that were there at the mark.
func TestLogsBehindBack(t *testing.T) {
	log := func(i byte) api.Log { return api.Log{Address: full(i), Data: []byte{i}} }
	w := made(t)
	w.Tell(log(1))
	w.Mark()
	w.Tell(log(2))
	w.Mark()
	w.Tell(log(3))
	old := w.Logs()
	w.Back(0)
	w.Tell(log(4))
	if got := logsText(w.Logs()); got != logsText([]api.Log{log(1), log(4)}) {
		t.Errorf("logs %s", got)
	}
	if got := logsText(old); got != logsText([]api.Log{log(1), log(2), log(3)}) {
		t.Errorf("what was answered is now %s", got)
	}
}

// 11.10: Owe at 0, below 0, at 2^62 and one past it, and at numbers with which a sum would wrap.
func TestOwe(t *testing.T) {
	const most = 1 << 62
	rows := []struct {
		from, more int
		e          api.Errno
	}{
		{0, 0, api.OK}, {0, -1, api.ErrArg}, {0, 1, api.OK}, {0, most, api.OK}, {0, most + 1, api.ErrArg},
		{0, math.MaxInt, api.ErrArg}, {0, math.MinInt, api.ErrArg}, {0, -most, api.ErrArg},
		{7, -7, api.OK}, {7, -8, api.ErrArg}, {7, most - 7, api.OK}, {7, most - 6, api.ErrArg}, {7, math.MaxInt, api.ErrArg}, {7, math.MinInt, api.ErrArg},
		{most, 0, api.OK}, {most, 1, api.ErrArg}, {most, -1, api.OK}, {most, -most, api.OK}, {most, -most - 1, api.ErrArg},
		{most, most, api.ErrArg}, {most, math.MaxInt, api.ErrArg}, {most, math.MaxInt - 1, api.ErrArg}, {most, math.MinInt, api.ErrArg},
	}
	for _, r := range rows {
		w := made(t)
		wantErrno(t, "Owe", w.Owe(r.from), api.OK)
		if got := w.Owe(r.more); got != r.e {
			t.Errorf("Owe(%d) at %d: %d, not %d", r.more, r.from, got, r.e)
		}
		want := r.from
		if r.e == api.OK {
			want += r.more
		}
		if w.Owed() != want {
			t.Errorf("Owe(%d) at %d: %d is owed", r.more, r.from, w.Owed())
		}
	}
}

// 11.11: behind Begin these addresses are warm and nothing else; no log, no transient slot, no refund, no mark; accounts and slots stay.
func TestBegin(t *testing.T) {
	a := addresses()
	for _, warm := range [][]api.Address{nil, {a[1]}, {a[1], a[1]}, {a[3], a[0], a[3], a[6]}, a} {
		w, m := both(t, wide()...)
		for _, x := range []asked{w, m} {
			stage(x)
			x.Begin(warm...)
		}
		hold(t, "Begin", w, m)
		if got, want := warmth(w), warmth(m); got != want {
			t.Errorf("Begin(%x): warm %s, not %s", warm, got, want)
		}
		for _, k := range keys() {
			if w.TGet(a[1], k) != n(0) || w.WarmSlot(a[1], k) {
				t.Errorf("behind Begin of %x: %x", k, w.TGet(a[1], k))
			}
		}
		if len(w.Logs()) != 0 || w.Owed() != 0 {
			t.Errorf("behind Begin: %d logs, %d owed", len(w.Logs()), w.Owed())
		}
		for mark := range 6 {
			wantErrno(t, "Back behind Begin", w.Back(mark), api.ErrMark)
			wantErrno(t, "Forget behind Begin", w.Forget(mark), api.ErrMark)
		}
	}
}

// 11.11, 11.12: what Begin made warm stays warm behind Back to a mark that was set since.
func TestBeginAndBack(t *testing.T) {
	w := made(t)
	w.Begin(full(1))
	w.Mark()
	w.Warm(full(2))
	w.Back(0)
	if !w.Warm(full(1)) || w.Warm(full(2)) {
		t.Error("what Begin made warm")
	}
}
