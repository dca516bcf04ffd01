package collect_test

import (
	"testing"

	"commonform/api"
	"commonform/heap"
)

// P16.1: what cannot be watched.
func TestWatchErrors(t *testing.T) {
	h, c := newCollector(t, 100, 100)
	box := made(t, h, heap.KindBox, 0)
	for _, w := range words(0, 4, 777, heap.Unbound, ref(7), ref(8), ref(1<<50)) {
		fails(t, "Watch of no object", c.Watch(w, 1), heap.ErrWord)
	}
	fails(t, "Watch of NIL", c.Watch(heap.Nil, 1), api.ErrArg)
	equal(t, "Watched", c.Watched(), []int{})
	fails(t, "Watch", c.Watch(box, -5), api.OK)
	equal(t, "Watched", c.Watched(), []int{-5})
}

// P16.5: ids end with their objects, once for each Watch, in the order of Watch.
func TestWatchers(t *testing.T) {
	h, c := newCollector(t, 200, 200)
	a, b, d := made(t, h, heap.KindBox, 0), made(t, h, heap.KindBox, 0), made(t, h, heap.KindBox, 0)
	ra, rb := h.Root(a), h.Root(b)
	for i, w := range words(d, b, a, d, b) {
		fails(t, "Watch", c.Watch(w, 10-i%3), api.OK)
	}
	equal(t, "at first", []any{c.Watched(), c.Ended()}, []any{[]int{10, 9, 8, 10, 9}, []int{}})
	minor(t, c, 0, 0)
	equal(t, "Watched", c.Watched(), []int{9, 8, 9})
	h.Drop(rb)
	major(t, c, 1, 0)
	equal(t, "Watched", c.Watched(), []int{8})
	equal(t, "two collections", []any{c.Ended(), c.Ended()}, []any{[]int{10, 10, 9, 9}, []int{}})
	h.Drop(ra)
	fails(t, "Watch once more", c.Watch(at(t, h, h.Root(ref(6))), 8), api.OK)
	for _, root := range h.Roots() {
		h.Drop(root)
	}
	minor(t, c, 0, 0)
	equal(t, "an old object", []any{c.Watched(), c.Ended()}, []any{[]int{8, 8}, []int{}})
	major(t, c, 0, 0)
	equal(t, "it goes", []any{c.Watched(), c.Ended(), h.Used()}, []any{[]int{}, []int{8, 8}, 6})
}

// P16.5: Ended gives its list away.
func TestEndedMemory(t *testing.T) {
	h, c := newCollector(t, 200, 200)
	c.Watch(made(t, h, heap.KindBox, 0), 1)
	major(t, c, 0, 0)
	l := c.Ended()
	c.Watch(made(t, h, heap.KindBox, 0), 2)
	major(t, c, 0, 0)
	equal(t, "Ended", []any{l, c.Ended()}, []any{[]int{1}, []int{2}})
}
