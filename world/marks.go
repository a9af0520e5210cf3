package world

import (
	"slices"

	"vouch/api"
)

// moment is what a mark keeps of what lies in no table.
type moment struct {
	sum    api.Word
	refund int
	logs   int // how many there were
}

// marked is what every table can do, whatever lies in it.
type marked interface {
	Mark() int
	Back(mark int) api.Errno
	Forget(mark int) api.Errno
}

// tables are all that go back. Each has the world's marks, by the same numbers.
func (w *World) tables() []marked {
	return []marked{w.holdings, w.slots, w.transient, w.warm, w.warmSlots}
}

// Mark is a mark of how it stands now.
func (w *World) Mark() int {
	for _, t := range w.tables() {
		t.Mark()
	}
	w.marks = append(w.marks, moment{sum: w.sum, refund: w.refund, logs: len(w.logs)})
	return len(w.marks) - 1
}

// Back goes back to a mark, which is none any more then, nor is any behind it.
func (w *World) Back(mark int) api.Errno {
	if !w.isMark(mark) {
		return api.ErrMark
	}
	for _, t := range w.tables() {
		t.Back(mark)
	}
	then := w.marks[mark]
	w.sum, w.refund = then.sum, then.refund
	w.logs = slices.Delete(w.logs, then.logs, len(w.logs))
	w.marks = w.marks[:mark]
	return api.OK
}

// Forget lets a mark go, and all behind it.
func (w *World) Forget(mark int) api.Errno {
	if !w.isMark(mark) {
		return api.ErrMark
	}
	for _, t := range w.tables() {
		t.Forget(mark)
	}
	w.marks = w.marks[:mark]
	return api.OK
}

func (w *World) isMark(mark int) bool { return mark >= 0 && mark < len(w.marks) }
