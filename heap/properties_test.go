package heap_test

import (
	"fmt"
	"math/rand"
	"testing"

	"commonform/api"
	"commonform/heap"
)

// anyGraph fills a heap with objects that refer to one another, and returns some of them.
func anyGraph(t *testing.T, r *rand.Rand, h *heap.Heap) []heap.Word {
	t.Helper()
	var l []heap.Word
	for range 5 + r.Intn(40) {
		w, e := h.Raw(1+r.Intn(31), fmt.Sprint("object ", r.Intn(1000)))
		if r.Intn(4) > 0 {
			w, e = h.New(1+r.Intn(31), r.Intn(5))
		}
		fails(t, "a new object", e, api.OK)
		l = append(l, w)
	}
	for _, w := range l {
		for i := range h.Len(w) {
			x := words(l[r.Intn(len(l))], l[r.Intn(len(l))], heap.Nil, heap.Unbound, 777, fix(r.Intn(9)))[r.Intn(6)]
			h.Set(w, i, x) // ErrRaw for those with bytes
		}
	}
	r.Shuffle(len(l), func(i, j int) { l[i], l[j] = l[j], l[i] })
	return l[:1+r.Intn(4)]
}

// met returns the objects that are met from some words, without the first object, by a search of its own.
func met(h *heap.Heap, l []heap.Word) []heap.Word {
	seen := map[heap.Word]bool{heap.Nil: true}
	var all []heap.Word
	for len(l) > 0 {
		w := l[0]
		l = l[1:]
		if h.Place(w) < 0 || seen[w] {
			continue
		}
		seen[w] = true
		all = append(all, w)
		for i := range h.Len(w) {
			x, _ := h.Get(w, i)
			l = append(l, x)
		}
	}
	return all
}

// P15.4: Keep of all objects that are met from some roots changes no Cells of these, whatever the order and the spaces.
func TestKeepChangesNoCells(t *testing.T) {
	r := rand.New(rand.NewSource(154))
	for range 500 {
		h := newHeap(t, 2000, 500)
		var roots []int
		for _, w := range anyGraph(t, r, h) {
			roots = append(roots, h.Root(w))
		}
		now := func() []heap.Word {
			var l []heap.Word
			for _, root := range roots {
				w, _ := h.At(root)
				l = append(l, w)
			}
			return l
		}
		want := cellsOf(t, h, now()...)
		for range 4 {
			all := met(h, now())
			r.Shuffle(len(all), func(i, j int) { all[i], all[j] = all[j], all[i] })
			cut := r.Intn(len(all) + 1)
			used := 6
			for _, w := range all {
				used += 1 + h.Len(w)
				if _, e := h.Bytes(w); e == api.OK {
					used += (h.Len(w)+7)/8 - h.Len(w)
				}
			}
			fails(t, "Keep", h.Keep(all[:cut], all[cut:]), api.OK)
			equal(t, "Cells behind Keep", cellsOf(t, h, now()...), want)
			equal(t, "Used behind Keep", h.Used(), used)
		}
	}
}

// P15.4: Lay of Cells, also in another heap, makes another graph with the same Cells.
func TestLayOfCells(t *testing.T) {
	r := rand.New(rand.NewSource(155))
	for range 500 {
		h, other := newHeap(t, 2000, 500), newHeap(t, 3000, 1)
		anyGraph(t, r, other)
		l := append(anyGraph(t, r, h), heap.Nil, fix(7))
		h.Set(heap.Nil, 1, l[0])
		cells, fields, _ := h.Cells(l)
		want := fmt.Sprint(cells, fields)
		for _, to := range []*heap.Heap{h, other} {
			used := to.Used()
			again, e := to.Lay(cells, fields)
			fails(t, "Lay", e, api.OK)
			equal(t, "Cells", cellsOf(t, to, again...), want)
			for _, w := range met(to, again) {
				if to.Place(w) < used {
					t.Errorf("Lay took an object that was there")
				}
			}
		}
		equal(t, "the Cells that were there", cellsOf(t, h, l...), want)
	}
}

// P15.3: no call changes what an argument or a result has.
func TestMemory(t *testing.T) {
	h := newHeap(t, 100, 100)
	pair := made(t, h, heap.KindCons, 8, 16)
	h.Root(pair)
	l := h.Objects()
	l[0] = 0
	roots := h.Roots()
	roots[0] = 9
	cells, fields, _ := h.Cells(words(pair))
	cells[0].Fields[0].Word = 800
	fields[0].Object = 4
	equal(t, "the heap", []any{h.Objects(), h.Roots(), cellsOf(t, h, pair)}, []any{words(3, pair), []int{0}, "[{10 false  [{8 -1} {16 -1}]}] [{0 0}]"})
	old, young := words(pair), words()
	fails(t, "Keep", h.Keep(old, young), api.OK)
	made(t, h, heap.KindBox, 0)
	equal(t, "the lists of Keep", []any{old, young}, []any{words(51), words()})
}
