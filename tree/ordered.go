package tree

import (
	"cmp"
	"iter"
	"slices"
)

// Ordered is a table that keeps its entries in the order in which they came.
type Ordered[K comparable, V any] struct {
	rows    []row[K, V]
	serials map[K]int
	next    int
}

// row is an entry. Its serial rises from row to row and stays when rows ahead of it go, so that no other key's serial changes with them.
type row[K comparable, V any] struct {
	serial int
	key    K
	value  V
}

// NewOrdered answers an empty table.
func NewOrdered[K comparable, V any]() *Ordered[K, V] {
	return &Ordered[K, V]{}
}

// Put lays an entry, or changes the value of the one that is there.
func (o *Ordered[K, V]) Put(k K, v V) bool {
	if o == nil || !holdable(k) {
		return false
	}
	if i, ok := o.find(k); ok {
		o.rows[i].value = v
		return false
	}
	if o.serials == nil {
		o.serials = map[K]int{}
	}
	o.serials[k] = o.next
	o.rows = append(o.rows, row[K, V]{serial: o.next, key: k, value: v})
	o.next++
	return true
}

// Get is the value of a key.
func (o *Ordered[K, V]) Get(k K) (V, bool) {
	i, ok := o.find(k)
	if !ok {
		var none V
		return none, false
	}
	return o.rows[i].value, true
}

// Drop takes an entry out.
func (o *Ordered[K, V]) Drop(k K) bool {
	i, ok := o.find(k)
	if !ok {
		return false
	}
	delete(o.serials, k)
	o.rows = cut(o.rows, i)
	return true
}

// Len is the number of entries.
func (o *Ordered[K, V]) Len() int {
	if o == nil {
		return 0
	}
	return len(o.rows)
}

// At is the entry number i.
func (o *Ordered[K, V]) At(i int) (K, V, bool) {
	if i < 0 || i >= o.Len() {
		var key K
		var none V
		return key, none, false
	}
	return o.rows[i].key, o.rows[i].value, true
}

// Keys are the keys in order.
func (o *Ordered[K, V]) Keys() []K {
	keys := make([]K, 0, o.Len())
	for k := range o.All() {
		keys = append(keys, k)
	}
	return keys
}

// All goes through the entries in order.
func (o *Ordered[K, V]) All() iter.Seq2[K, V] {
	return func(yield func(K, V) bool) {
		if o == nil {
			return
		}
		// A range has rows of its own: the table may change while it goes on.
		for _, r := range slices.Clone(o.rows) {
			if !yield(r.key, r.value) {
				return
			}
		}
	}
}

// find is the number of a key's row.
func (o *Ordered[K, V]) find(k K) (int, bool) {
	if o == nil || !holdable(k) {
		return 0, false
	}
	serial, ok := o.serials[k]
	if !ok {
		return 0, false
	}
	return slices.BinarySearchFunc(o.rows, serial, func(r row[K, V], serial int) int {
		return cmp.Compare(r.serial, serial)
	})
}

// holdable: can k be held against other keys? One whose == panics can't, nor one that isn't equal to itself: a map would panic at the first and never find the second.
func holdable[K comparable](k K) (ok bool) {
	defer func() {
		if recover() != nil {
			ok = false
		}
	}()
	return k == k
}

// cut takes element i out. The shorter side is moved, so that a table that is emptied from either end moves nothing.
func cut[T any](list []T, i int) []T {
	if i >= len(list)/2 {
		return slices.Delete(list, i, i+1)
	}
	copy(list[1:i+1], list[:i])
	clear(list[:1])
	return list[1:]
}
