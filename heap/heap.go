// Package heap: things come in any order, and are given by their keys.
package heap

import "cmp"

// Heap gives what was put into it, the least key first. Its zero value is empty.
//
// It is a tree in a list: below place i are the places 2 * i + 1 and 2 * i + 2, and no key is less than the one that it is below.
type Heap[K cmp.Ordered, V any] struct {
	entries []entry[K, V]
}

type entry[K cmp.Ordered, V any] struct {
	key   K
	value V
}

// Len gives how many things there are.
func (h *Heap[K, V]) Len() int { return len(h.entries) }

// Push puts a thing in.
func (h *Heap[K, V]) Push(key K, value V) {
	h.entries = append(h.entries, entry[K, V]{key, value})
	h.siftUp(len(h.entries) - 1)
}

// Pop takes the thing with the least key out. There is at least one.
func (h *Heap[K, V]) Pop() V {
	first := h.entries[0].value
	last := len(h.entries) - 1
	h.entries[0] = h.entries[last]
	h.entries = h.entries[:last]
	h.siftDown(0)
	return first
}

func (h *Heap[K, V]) siftUp(i int) {
	for i > 0 {
		above := (i - 1) / 2
		if h.entries[above].key <= h.entries[i].key {
			return
		}
		h.swap(above, i)
		i = above
	}
}

func (h *Heap[K, V]) siftDown(i int) {
	for {
		least := h.lesser(i, h.lesser(2*i+1, 2*i+2))
		if least == i {
			return
		}
		h.swap(least, i)
		i = least
	}
}

// lesser gives which of two places has the lesser key. It is i if they are the same, and if nothing stands at j, which is behind i.
func (h *Heap[K, V]) lesser(i int, j int) int {
	if j < len(h.entries) && h.entries[j].key < h.entries[i].key {
		return j
	}
	return i
}

func (h *Heap[K, V]) swap(i int, j int) {
	h.entries[i], h.entries[j] = h.entries[j], h.entries[i]
}
