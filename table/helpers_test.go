package table_test

import (
	"fmt"
	"testing"

	"commonform/api"
	"commonform/heap"
	"commonform/table"
)

func fails(t *testing.T, what string, got, want api.Errno) {
	t.Helper()
	if got != want {
		t.Errorf("%s: %v; want %v", what, got, want)
	}
}

// short returns what of a value is worth to be printed.
func short(x any) string { return fmt.Sprintf("%.400s", fmt.Sprintf("%+v", x)) }

func equal(t *testing.T, what string, got, want any) {
	t.Helper()
	if fmt.Sprintf("%+v", got) != fmt.Sprintf("%+v", want) {
		t.Errorf("%s = %s; want %s", what, short(got), short(want))
	}
}

func newHeap(t *testing.T, limit int) *heap.Heap {
	t.Helper()
	h, e := heap.New(limit, limit)
	fails(t, "a heap", e, api.OK)
	return h
}

// made makes an object with these fields.
func made(t *testing.T, h *heap.Heap, kind int, fields ...heap.Word) heap.Word {
	t.Helper()
	w, e := h.New(kind, len(fields))
	fails(t, "a new object", e, api.OK)
	for i, x := range fields {
		fails(t, "Set", h.Set(w, i, x), api.OK)
	}
	return w
}

func raw(t *testing.T, h *heap.Heap, kind int, bytes string) heap.Word {
	t.Helper()
	w, e := h.Raw(kind, bytes)
	fails(t, "Raw", e, api.OK)
	return w
}

func str(t *testing.T, h *heap.Heap, bytes string) heap.Word {
	t.Helper()
	return raw(t, h, heap.KindString, bytes)
}

func cons(t *testing.T, h *heap.Heap, car, cdr heap.Word) heap.Word {
	t.Helper()
	return made(t, h, heap.KindCons, car, cdr)
}

func fix(n int) heap.Word { return heap.Word(n) << 3 }

func char(c rune) heap.Word { return heap.Word(c)<<3 | 1 }

func ref(place int) heap.Word { return heap.Word(place)<<3 | 3 }

// words is a list of words.
func words(l ...heap.Word) []heap.Word { return l }

func newTable(t *testing.T, h *heap.Heap, test int, weak bool) heap.Word {
	t.Helper()
	w, e := table.New(h, test, weak)
	fails(t, "a new table", e, api.OK)
	return w
}

func put(t *testing.T, h *heap.Heap, m, key, value heap.Word) {
	t.Helper()
	fails(t, "Put", table.Put(h, m, key, value), api.OK)
}

// holds checks all that a table tells.
func holds(t *testing.T, h *heap.Heap, m heap.Word, keys, values []heap.Word) {
	t.Helper()
	k, e := table.Keys(h, m)
	equal(t, "Keys", []any{k, e}, []any{keys, api.OK})
	v, e := table.Values(h, m)
	equal(t, "Values", []any{v, e}, []any{values, api.OK})
	n, e := table.Count(h, m)
	equal(t, "Count", []any{n, e}, []any{len(keys), api.OK})
}

// got is what Get returns.
type got struct {
	w  heap.Word
	ok bool
	e  api.Errno
}

func get(h *heap.Heap, m, key heap.Word) got {
	w, ok, e := table.Get(h, m, key)
	return got{w, ok, e}
}

// relations are the three relations.
func relations() []func(*heap.Heap, heap.Word, heap.Word) (bool, api.Errno) {
	return []func(*heap.Heap, heap.Word, heap.Word) (bool, api.Errno){table.Eql, table.Equal, table.Equalp}
}

// same reports whether two words are the same by a test.
func same(t *testing.T, h *heap.Heap, test int, a, b heap.Word) bool {
	t.Helper()
	if test == table.Eq {
		return a == b
	}
	ok, e := relations()[test-1](h, a, b)
	fails(t, "a relation", e, api.OK)
	return ok
}

// sameBy returns by how many of the tests two words are the same: each one holds where the one ahead of it does.
func sameBy(t *testing.T, h *heap.Heap, a, b heap.Word) int {
	t.Helper()
	n := 0
	for test := range 4 {
		if same(t, h, test, a, b) != same(t, h, test, b, a) {
			t.Errorf("the test %d of %d and %d depends on their order", test, a, b)
		}
		if same(t, h, test, a, b) {
			n++
		} else if n > 0 {
			t.Errorf("%d and %d are the same by a finer test than %d", a, b, test)
		}
	}
	return n
}
