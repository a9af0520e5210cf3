package world_test

import (
	"fmt"
	"slices"
	"testing"

	"vouch/api"
	"vouch/world"
)

// roomy is a list with the same items, and spare room behind them that is filled with one of them.
func roomy[T any](l []T, fill T) []T {
	r := append(make([]T, 0, len(l)+5), l...)
	for i := len(l); i < cap(r); i++ {
		r[:cap(r)][i] = fill
	}
	return r
}

// roomyAccounts has spare room in every list.
func roomyAccounts(l []api.Account) []api.Account {
	var r []api.Account
	for _, x := range l {
		x.Code, x.Slots = roomy(x.Code, 0xaa), roomy(x.Slots, api.Slot{Key: n(7), Value: n(8)})
		r = append(r, x)
	}
	return roomy(r, api.Account{Nonce: 99})
}

// accountsWhole tells accounts with all spare room of their lists.
func accountsWhole(l []api.Account) string {
	var text string
	for _, x := range l[:cap(l)] {
		text += fmt.Sprintf("%x %d %x %x %x\n", x.Address, x.Nonce, x.Balance, x.Code[:cap(x.Code)], x.Slots[:cap(x.Slots)])
	}
	return text
}

func logsWhole(l []api.Log) string {
	var text string
	for _, x := range l[:cap(l)] {
		text += fmt.Sprintf("%x %x %x\n", x.Address, x.Topics[:cap(x.Topics)], x.Data[:cap(x.Data)])
	}
	return text
}

// spoilAccounts writes over all of a list, spare room too.
func spoilAccounts(l []api.Account) {
	for i := range l {
		spoilBytes(l[i].Code)
		spoilSlots(l[i].Slots)
		l[i] = api.Account{Nonce: 77}
	}
	for i := range l[len(l):cap(l)] {
		l[len(l):cap(l)][i] = api.Account{Nonce: 78}
	}
}

func spoilBytes(b []byte) {
	for i := range b[:cap(b)] {
		b[:cap(b)][i] ^= 0x5a
	}
}

func spoilSlots(l []api.Slot) {
	for i := range l[:cap(l)] {
		l[:cap(l)][i] = api.Slot{Key: n(91), Value: n(92)}
	}
}

func spoilWords(l []api.Word) {
	for i := range l[:cap(l)] {
		l[:cap(l)][i] = n(93)
	}
}

// R3: Check and New change nothing of a list, spare room too, and New keeps nothing of it (11.15).
func TestListIsNotKept(t *testing.T) {
	l := roomyAccounts(wide())
	before := accountsWhole(l)
	world.Check(l)
	w := made(t, l...)
	plain := made(t, wide()...)
	if got := accountsWhole(l); got != before {
		t.Errorf("handed in:\n%s\nthen\n%s", before, got)
	}
	stage(w)
	stage(plain)
	if got := accountsWhole(l); got != before {
		t.Errorf("handed in:\n%s\nthen, changed by calls\n%s", before, got)
	}
	spoilAccounts(l)
	hold(t, "a list that was handed in is written over", w, plain)
	w.Back(0)
	plain.Back(0)
	hold(t, "a list that was handed in is written over, then Back", w, plain)
}

// R3: what is wrong in a list does not change it either.
func TestWrongListIsNotChanged(t *testing.T) {
	for _, s := range spoilers() {
		l := right(4)
		s.spoil(l, 2)
		l = roomyAccounts(l)
		before := accountsWhole(l)
		world.Check(l)
		world.New(l)
		if got := accountsWhole(l); got != before {
			t.Errorf("%s: handed in, then changed", s.name)
		}
	}
}

// R3, 11.15: what Tell and Begin are handed is not changed and not kept.
func TestLogIsNotKept(t *testing.T) {
	w := made(t)
	for topics := range 6 {
		x := api.Log{Address: full(1), Topics: roomy(make([]api.Word, topics), n(5)), Data: roomy(make([]byte, topics%3), 0xaa)}
		want := logCopy(x)
		before := logsWhole([]api.Log{x})
		w.Begin()
		w.Tell(x)
		if got := logsWhole([]api.Log{x}); got != before {
			t.Errorf("handed in: %s, then %s", before, got)
		}
		spoilWords(x.Topics)
		spoilBytes(x.Data)
		if got := logsText(w.Logs()); got != logsText([]api.Log{want}) {
			t.Errorf("written over: %s", got)
		}
	}
	warm := roomy([]api.Address{full(1), full(2)}, full(9))
	before := slices.Clone(warm[:cap(warm)])
	w.Begin(warm...)
	if !slices.Equal(warm[:cap(warm)], before) {
		t.Errorf("handed in %x, then %x", before, warm[:cap(warm)])
	}
	warm[0], warm[1] = full(8), full(8)
	if !w.Warm(full(1)) || !w.Warm(full(2)) || w.Warm(full(8)) || w.Warm(full(9)) {
		t.Error("the addresses of Begin")
	}
}

// 11.15, R3: what Accounts answers, written over and grown, changes neither the world nor another answer.
func TestAccountsAreNew(t *testing.T) {
	w := made(t, wide()...)
	stage(w)
	w.Lay(full(3), codes()[1])
	w.Set(full(3), n(1), n(1))
	other, text := w.Accounts(), accountsText(w.Accounts())
	l := w.Accounts()
	for range 2 {
		spoilAccounts(l)
		l = append(l[:1], l...)
		if got := accountsText(other); got != text {
			t.Fatalf("another answer is now\n%s\nnot\n%s", got, text)
		}
		if got := accountsText(w.Accounts()); got != text {
			t.Fatalf("asked again\n%s\nnot\n%s", got, text)
		}
	}
}

// R3: no two lists of one answer of Accounts share any memory, spare room neither.
func TestAccountsShareNothing(t *testing.T) {
	w := made(t, wide()...)
	stage(w)
	for i := range w.Accounts() {
		l := w.Accounts()
		want := accountsText(slices.Delete(w.Accounts(), i, i+1))
		spoilBytes(l[i].Code)
		spoilSlots(l[i].Slots)
		if got := accountsText(slices.Delete(slices.Clone(l), i, i+1)); got != want {
			t.Errorf("the lists of account %d, written over, change\n%s\nto\n%s", i, want, got)
		}
	}
}

// 11.15, R3: what Logs answers, written over and grown, changes neither the world nor another answer; no two lists of it share any memory.
func TestLogsAreNew(t *testing.T) {
	w := made(t)
	for i := range 7 {
		w.Tell(api.Log{Address: full(byte(i)), Topics: make([]api.Word, i), Data: make([]byte, 7-i)})
	}
	other, text := w.Logs(), logsText(w.Logs())
	for i := range 7 {
		l := w.Logs()
		want := logsText(slices.Delete(w.Logs(), i, i+1))
		spoilWords(l[i].Topics)
		spoilBytes(l[i].Data)
		if got := logsText(slices.Delete(slices.Clone(l), i, i+1)); got != want {
			t.Errorf("the lists of log %d, written over, change\n%s\nto\n%s", i, want, got)
		}
		for j := range l[:cap(l)] {
			l[:cap(l)][j] = api.Log{Address: full(0xee)}
		}
		if got := logsText(other); got != text {
			t.Fatalf("another answer is now\n%s\nnot\n%s", got, text)
		}
		if got := logsText(w.Logs()); got != text {
			t.Fatalf("asked again\n%s\nnot\n%s", got, text)
		}
	}
}

// 11.15: whatever is done with a code that was answered, or laid, it stays.
func TestCodeStays(t *testing.T) {
	c := codeOf(stop(3), api.Runtime)
	w := made(t, api.Account{Address: full(1), Code: parent()})
	w.Lay(full(2), c)
	before := told(w)
	for _, a := range []api.Address{full(1), full(2)} {
		got, _ := w.Code(a)
		spoilBytes(got.Bytes())
		spoilBytes(got.Section(0))
		spoilBytes(got.Data())
	}
	spoilBytes(c.Bytes())
	spoilBytes(c.Data())
	if got := told(w); got != before {
		t.Errorf("%s\nnot\n%s", got, before)
	}
}

// 11.15, R4: worlds of one list, with one code laid in each, changed in turn, know nothing of each other.
func TestWorldsApart(t *testing.T) {
	for run := range uint64(10) {
		d := draw(15000 + run)
		l := wide()
		var worlds []*world.World
		var models []*model
		for range 3 {
			w, m := both(t, l...)
			worlds, models = append(worlds, w), append(models, m)
		}
		c := codeOf(stop(9), api.Runtime)
		for i := range worlds {
			worlds[i].Lay(full(3), c)
			models[i].Lay(full(3), c)
		}
		for range 80 {
			i := d.IntN(len(worlds))
			c := drawRow(d, 1, upTo(4), 30)[0]
			if got, want := c.make(worlds[i]), c.make(models[i]); got != want {
				t.Fatalf("%s: %v, not %v", c.name, got, want)
			}
			for j := range worlds {
				hold(t, c.name, worlds[j], models[j])
			}
		}
	}
}
