package undo

import (
	"iter"
	"slices"
)

// Keys are the keys, in an order.
func (t *Table[K, V]) Keys(order func(a, b K) int) []K {
	keys := make([]K, len(t.rows))
	for i, r := range t.rows {
		keys[i] = r.key
	}
	if order != nil {
		slices.SortFunc(keys, order)
	}
	return keys
}

// All goes through the keys that there are at the call, in an order, with their values.
func (t *Table[K, V]) All(order func(a, b K) int) iter.Seq2[K, V] {
	rows := slices.Clone(t.rows)
	if order != nil {
		slices.SortFunc(rows, func(a, b row[K, V]) int { return order(a.key, b.key) })
	}
	return func(yield func(K, V) bool) {
		for _, r := range rows {
			if !yield(r.key, r.value) {
				return
			}
		}
	}
}
