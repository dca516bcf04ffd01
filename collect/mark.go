package collect

import (
	"iter"

	"commonform/api"
	"commonform/heap"
)

// Fields of an ephemeron. (A weak reference is the first field, too.)
const (
	keyField = iota
	valueField
	firstStrong // from here on its fields are like those of any other object
)

// marker marks the objects that are reached.
type marker struct {
	h       *heap.Heap
	old     int // objects at lower places count as reached, without a mark
	marks   map[heap.Word]bool
	queue   []heap.Word               // what was reached and not looked at as yet
	waiting map[heap.Word][]heap.Word // values of ephemerons, by their keys that are not reached
	again   []heap.Word               // values that waited for keys that were reached since
}

// newMarker returns one that has reached the words of all roots, and Nil.
func newMarker(h *heap.Heap, old int) *marker {
	m := &marker{h: h, old: old, marks: map[heap.Word]bool{}, waiting: map[heap.Word][]heap.Word{}}
	m.reach(heap.Nil)
	for _, root := range h.Roots() {
		w, _ := h.At(root)
		m.reach(w)
	}
	return m
}

// markAll returns the marks of the live objects.
func markAll(h *heap.Heap) *marker {
	m := newMarker(h, 0)
	m.run()
	return m
}

// markYoung returns the marks of young objects when all old ones are kept.
func markYoung(h *heap.Heap) *marker {
	m := newMarker(h, h.Old())
	for _, w := range h.Remembered() { // no other old object has a young part
		m.look(w)
	}
	m.run()
	return m
}

// reached reports whether an object is reached.
func (m *marker) reached(w heap.Word) bool { return m.h.Place(w) < m.old || m.marks[w] }

// held reports whether a word is immediate, or the object is reached.
func (m *marker) held(w heap.Word) bool { return !w.IsRef() || m.reached(w) }

// reach marks an object; other words play no part.
func (m *marker) reach(w heap.Word) {
	if m.held(w) {
		return
	}
	m.marks[w] = true
	m.queue = append(m.queue, w)
	m.again = append(m.again, m.waiting[w]...)
}

// run goes on until nothing new is reached.
func (m *marker) run() {
asking:
	for {
		switch {
		case len(m.queue) > 0:
			last := len(m.queue) - 1
			w := m.queue[last]
			m.queue = m.queue[:last]
			m.look(w)
		case len(m.again) > 0:
			values := m.again
			m.again = nil
			for _, w := range values {
				m.reach(w)
			}
		default:
			break asking
		}
	}
}

// look reaches what an object holds. The value of an ephemeron waits until its key is reached.
func (m *marker) look(w heap.Word) {
	for part := range strong(m.h, w) {
		m.reach(part)
	}
	key, value, ok := ephemeron(m.h, w)
	switch {
	case !ok:
	case m.held(key):
		m.reach(value)
	default:
		m.waiting[key] = append(m.waiting[key], value)
	}
}

// lose takes the value of an ephemeron away whose key is not reached, and reports whether an object loses its key or its weak reference. (These become Unbound when the heap is laid anew.)
func (m *marker) lose(w heap.Word) bool {
	if key, _, ok := ephemeron(m.h, w); ok && !m.held(key) {
		m.h.Set(w, valueField, heap.Unbound)
		return true
	}
	if m.h.Kind(w) != heap.KindWeak {
		return false
	}
	x, _ := m.h.Get(w, 0)
	return !m.held(x)
}

// ephemeron returns the key and the value of an ephemeron. One without room for both is an object like any other one.
func ephemeron(h *heap.Heap, w heap.Word) (key, value heap.Word, ok bool) {
	if h.Kind(w) != heap.KindEphemeron {
		return 0, 0, false
	}
	key, _ = h.Get(w, keyField)
	value, e := h.Get(w, valueField)
	return key, value, e == api.OK
}

// strong yields the strong parts of an object.
func strong(h *heap.Heap, w heap.Word) iter.Seq[heap.Word] {
	return func(yield func(heap.Word) bool) {
		first := 0
		if _, _, ok := ephemeron(h, w); ok {
			first = firstStrong
		}
		for i := first; h.Kind(w) != heap.KindWeak; i++ {
			x, e := h.Get(w, i)
			if e != api.OK || x.IsRef() && !yield(x) { // behind the last field; at once, if it has bytes
				return
			}
		}
	}
}
