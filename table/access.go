package table

import (
	"commonform/api"
	"commonform/heap"
)

// few is how many entries need no index.
const few = 8

// Get returns the value of a key.
func Get(h *heap.Heap, t, key heap.Word) (heap.Word, bool, api.Errno) {
	x, e := open(h, t, key)
	if e != api.OK {
		return 0, false, e
	}
	x.prepare()
	entry, ok := x.find(key)
	if !ok {
		return heap.Nil, false, api.OK
	}
	return x.of(entry, valueField), true, api.OK
}

// Put gives a key a value.
func Put(h *heap.Heap, t, key, value heap.Word) api.Errno {
	x, e := open(h, t, key, value)
	if e != api.OK {
		return e
	}
	if x.weak && key == heap.Unbound {
		return api.ErrArg
	}
	entry, ok := x.find(key)
	if !ok {
		if entry, e = h.New(x.entryKind(), entryFields); e != api.OK {
			return e
		}
		h.Set(entry, keyField, key)
		x.add(entry)
	}
	h.Set(entry, valueField, value)
	x.prepare() // behind the entry, for which there must be room
	return api.OK
}

// Remove takes a key away.
func Remove(h *heap.Heap, t, key heap.Word) (bool, api.Errno) {
	x, e := open(h, t, key)
	if e != api.OK {
		return false, e
	}
	x.prepare()
	entry, ok := x.find(key)
	if ok {
		x.take(entry)
	}
	return ok, api.OK
}

// Clear takes all keys away.
func Clear(h *heap.Heap, t heap.Word) api.Errno {
	if _, e := open(h, t); e != api.OK {
		return e
	}
	h.Set(t, countField, fixnum(0))
	h.Set(t, firstField, heap.Nil)
	return h.Set(t, indexField, heap.Nil)
}

// Cool lays a hash table so that nothing of it depends on the places of objects.
func Cool(h *heap.Heap, t heap.Word) api.Errno {
	x, e := open(h, t)
	if e != api.OK {
		return e
	}
	x.settle()
	for entry := range x.entries() {
		h.Set(entry, chainField, fixnum(0))
	}
	return h.Set(t, indexField, heap.Nil)
}

// find returns the entry of the first key that is the same as a word, and whether there is one.
func (t table) find(key heap.Word) (heap.Word, bool) {
	if x, ok := t.index(); ok {
		return x.lookUp(key)
	}
	for entry := range t.entries() {
		if t.same(entry, key) {
			return entry, true
		}
	}
	return 0, false
}

// same reports whether the key of an entry is the same as a word.
func (t table) same(entry, key heap.Word) bool {
	return same(t.h, t.test, t.of(entry, keyField), key)
}

// link puts an entry, or Nil, behind another one, or (behind Nil) ahead of all.
func (t table) link(previous, entry heap.Word) {
	if previous == heap.Nil {
		t.h.Set(t.self, firstField, entry)
	} else {
		t.h.Set(previous, nextField, entry)
	}
}

// settle takes the entries whose keys are gone out of the list, and returns the last one that is left, or Nil.
func (t table) settle() heap.Word {
	last, count := heap.Nil, 0
	for entry := range t.entries() {
		t.link(last, entry)
		last = entry
		count++
	}
	t.link(last, heap.Nil)
	t.h.Set(t.self, countField, fixnum(count))
	return last
}

// grow changes the number of entries.
func (t table) grow(by int) {
	n := natural(t.field(countField), api.MaxWords)
	t.h.Set(t.self, countField, fixnum(n+by))
}

// add puts a new entry behind all others.
func (t table) add(entry heap.Word) {
	if x, ok := t.index(); ok {
		t.link(x.of(x.vector, lastField), entry)
		x.insert(entry)
	} else {
		t.link(t.settle(), entry)
	}
	t.grow(1)
}

// take takes an entry away.
func (t table) take(entry heap.Word) {
	previous := heap.Nil
	for other := range t.list() {
		if other == entry {
			break
		}
		previous = other
	}
	t.link(previous, t.of(entry, nextField))
	t.grow(-1)
	if x, ok := t.index(); ok {
		x.drop(entry, previous)
	}
}
