package undo

import (
	"slices"

	"vouch/api"
)

// Mark is a mark of how it stands now.
func (t *Table[K, V]) Mark() int {
	t.marks = append(t.marks, len(t.backs))
	return len(t.marks) - 1
}

// Marks is how many marks there are.
func (t *Table[K, V]) Marks() int { return len(t.marks) }

// Back goes back to a mark, which is none any more then, nor is any behind it.
func (t *Table[K, V]) Back(mark int) api.Errno {
	if !t.isMark(mark) {
		return api.ErrMark
	}
	first := t.marks[mark]
	for _, back := range slices.Backward(t.backs[first:]) {
		back()
	}
	t.drop(first)
	t.marks = t.marks[:mark]
	return api.OK
}

// Forget lets a mark go, and all behind it. What was noted since is still of use to the marks ahead of it.
func (t *Table[K, V]) Forget(mark int) api.Errno {
	if !t.isMark(mark) {
		return api.ErrMark
	}
	if mark == 0 {
		t.drop(0)
	}
	t.marks = t.marks[:mark]
	return api.OK
}

func (t *Table[K, V]) isMark(mark int) bool {
	return mark >= 0 && mark < len(t.marks)
}

// note keeps what takes a change back, if there is a mark to go back to.
func (t *Table[K, V]) note(back func()) {
	if len(t.marks) > 0 {
		t.backs = append(t.backs, back)
	}
}

// drop lets what was noted go, from the place first on.
func (t *Table[K, V]) drop(first int) {
	clear(t.backs[first:]) // else the list would keep the values that they hold
	t.backs = t.backs[:first]
}
