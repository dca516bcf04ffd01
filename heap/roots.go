package heap

import (
	"maps"
	"slices"

	"commonform/api"
)

// Root returns a new root that has a word, -1 if there is no such word.
func (h *Heap) Root(w Word) int {
	if h.missing() || !h.isWord(w) {
		return -1
	}
	root := h.nextRoot
	h.roots[root] = w
	h.nextRoot++
	return root
}

// At returns the word of a root.
func (h *Heap) At(root int) (Word, api.Errno) {
	if h.missing() {
		return 0, api.ErrArg
	}
	w, ok := h.roots[root]
	if !ok {
		return 0, api.ErrNone
	}
	return w, api.OK
}

// Put changes the word of a root.
func (h *Heap) Put(root int, w Word) api.Errno {
	if _, e := h.At(root); e != api.OK {
		return e
	}
	if !h.isWord(w) {
		return ErrWord
	}
	h.roots[root] = w
	return api.OK
}

// Drop takes a root away.
func (h *Heap) Drop(root int) api.Errno {
	if _, e := h.At(root); e != api.OK {
		return e
	}
	delete(h.roots, root)
	return api.OK
}

// Roots returns all roots, ascending.
func (h *Heap) Roots() []int {
	if h == nil {
		return nil
	}
	return slices.Sorted(maps.Keys(h.roots))
}
