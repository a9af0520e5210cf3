package world

import (
	"vouch/api"
	"vouch/undo"
	"vouch/word"
)

// Get is the word of a slot.
func (w *World) Get(a api.Address, key api.Word) api.Word {
	v, _ := w.slots.Get(place{a, key})
	return v
}

// Set gives a slot a word.
func (w *World) Set(a api.Address, key, v api.Word) {
	p := place{a, key}
	if _, known := w.originals[p]; !known {
		w.originals[p] = w.Get(a, key)
	}
	put(w.slots, p, v)
}

// Original is the word that a slot had when the message began.
func (w *World) Original(a api.Address, key api.Word) api.Word {
	if v, set := w.originals[place{a, key}]; set {
		return v
	}
	return w.Get(a, key)
}

// TGet is the word of a transient slot.
func (w *World) TGet(a api.Address, key api.Word) api.Word {
	v, _ := w.transient.Get(place{a, key})
	return v
}

// TSet gives a transient slot a word.
func (w *World) TSet(a api.Address, key, v api.Word) { put(w.transient, place{a, key}, v) }

// put lays a word into a table of slots; a word 0 is none.
func put(t *undo.Table[place, api.Word], p place, v api.Word) {
	if word.IsZero(v) {
		t.Delete(p)
		return
	}
	t.Set(p, v)
}
