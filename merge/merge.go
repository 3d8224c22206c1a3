// Package merge makes one list in order out of several that are in order.
package merge

import "iter"

// heap holds lists, none of them empty. Below the place p are 2p+1 and 2p+2, and no list there has a first element less than that at p; so the least of all is that of the list on top.
type heap[T any] struct {
	lists [][]T
	less  func(a, b T) bool
}

// Lists gives the elements of all lists, each of which is in rising order, in rising order. It does not write into the lists.
func Lists[T any](lists [][]T, less func(a, b T) bool) iter.Seq[T] {
	return func(yield func(T) bool) {
		h := newHeap(lists, less)
		for len(h.lists) > 0 {
			if !yield(h.take()) {
				return
			}
		}
	}
}

func newHeap[T any](lists [][]T, less func(a, b T) bool) *heap[T] {
	h := &heap[T]{less: less}
	for _, list := range lists {
		if len(list) > 0 {
			h.lists = append(h.lists, list)
		}
	}
	for place := len(h.lists)/2 - 1; place >= 0; place-- {
		h.sink(place)
	}
	return h
}

// take takes the least of all elements.
func (h *heap[T]) take() T {
	top := h.lists[0]
	if len(top) > 1 {
		h.lists[0] = top[1:]
	} else {
		last := len(h.lists) - 1
		h.lists[0] = h.lists[last]
		h.lists = h.lists[:last]
	}
	h.sink(0)
	return top[0]
}

// sink moves a list down until none below it is ahead of it.
func (h *heap[T]) sink(place int) {
	for {
		least := place
		for below := 2*place + 1; below <= 2*place+2; below++ {
			if below < len(h.lists) && h.isAhead(below, least) {
				least = below
			}
		}
		if least == place {
			return
		}
		h.lists[place], h.lists[least] = h.lists[least], h.lists[place]
		place = least
	}
}

func (h *heap[T]) isAhead(a, b int) bool {
	return h.less(h.lists[a][0], h.lists[b][0])
}
