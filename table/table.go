// Package table: names in order, and what they stand for: see ../../shared/doc/01-table.md.
package table

import (
	"cmp"
	"slices"
)

// mostRoom is how many names a table may have room for.
const mostRoom = 1000

type pair[K cmp.Ordered, V any] struct {
	name  K
	value V
}

// Table is names in order, and what they stand for.
type Table[K cmp.Ordered, V any] struct {
	room  int
	pairs []pair[K, V] // by name, rising
}

// New makes a table without names, with room for most of them.
func New[K cmp.Ordered, V any](most int) *Table[K, V] {
	return &Table[K, V]{room: min(max(most, 0), mostRoom)}
}

// search tells the place of the first name that is k or above, and whether it is k.
func (t *Table[K, V]) search(k K) (int, bool) {
	// Compare and not <: with it a float that is no number has its place in the order, too.
	return slices.BinarySearchFunc(t.pairs, k, func(p pair[K, V], k K) int {
		return cmp.Compare(p.name, k)
	})
}

// Put lets k stand for v: no, if k is new and there is no room.
func (t *Table[K, V]) Put(k K, v V) bool {
	if t == nil {
		return false
	}
	i, there := t.search(k)
	if there {
		t.pairs[i].value = v
		return true
	}
	if len(t.pairs) >= t.room {
		return false
	}
	t.pairs = slices.Insert(t.pairs, i, pair[K, V]{name: k, value: v})
	return true
}

// Get tells what k stands for.
func (t *Table[K, V]) Get(k K) (v V, ok bool) {
	if t == nil {
		return v, false
	}
	i, there := t.search(k)
	if !there {
		return v, false
	}
	return t.pairs[i].value, true
}

// Cut takes k out: no, if it was not there.
func (t *Table[K, V]) Cut(k K) bool {
	if t == nil {
		return false
	}
	i, there := t.search(k)
	if there {
		t.pairs = slices.Delete(t.pairs, i, i+1)
	}
	return there
}

// Len tells how many names there are.
func (t *Table[K, V]) Len() int {
	if t == nil {
		return 0
	}
	return len(t.pairs)
}

// Keys tells all names, rising.
func (t *Table[K, V]) Keys() []K {
	if t.Len() == 0 {
		return nil
	}
	l := make([]K, len(t.pairs))
	for i, p := range t.pairs {
		l[i] = p.name
	}
	return l
}

// From tells the lowest name that is k or above, and what it stands for.
func (t *Table[K, V]) From(k K) (at K, v V, ok bool) {
	if t == nil {
		return at, v, false
	}
	i, _ := t.search(k)
	return t.At(i)
}

// At tells the i-th name from 0 on, and what it stands for.
func (t *Table[K, V]) At(i int) (k K, v V, ok bool) {
	if i < 0 || i >= t.Len() {
		return k, v, false
	}
	return t.pairs[i].name, t.pairs[i].value, true
}
