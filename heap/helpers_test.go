package heap_test

import (
	"fmt"
	"testing"

	"commonform/api"
	"commonform/heap"
)

func fails(t *testing.T, what string, got, want api.Errno) {
	t.Helper()
	if got != want {
		t.Errorf("%s: %v; want %v", what, got, want)
	}
}

// short returns what of a value is worth to be printed.
func short(x any) string { return fmt.Sprintf("%.400s", fmt.Sprintf("%+v", x)) }

func equal(t *testing.T, what string, got, want any) {
	t.Helper()
	if fmt.Sprint(got) != fmt.Sprint(want) {
		t.Errorf("%s = %s; want %s", what, short(got), short(want))
	}
}

// answer is a word, or the error of a call.
type answer struct {
	w heap.Word
	e api.Errno
}

func answerOf(w heap.Word, e api.Errno) answer { return answer{w, e} }

func newHeap(t *testing.T, limit, young int) *heap.Heap {
	t.Helper()
	h, e := heap.New(limit, young)
	if e != api.OK {
		t.Fatalf("New(%d, %d): %v", limit, young, e)
	}
	return h
}

// made makes an object with these fields.
func made(t *testing.T, h *heap.Heap, kind int, fields ...heap.Word) heap.Word {
	t.Helper()
	w, e := h.New(kind, len(fields))
	if e != api.OK {
		t.Fatalf("New(%d, %d): %v", kind, len(fields), e)
	}
	for i, x := range fields {
		fails(t, "Set", h.Set(w, i, x), api.OK)
	}
	return w
}

func raw(t *testing.T, h *heap.Heap, kind int, bytes string) heap.Word {
	t.Helper()
	w, e := h.Raw(kind, bytes)
	if e != api.OK {
		t.Fatalf("Raw(%d): %v", kind, e)
	}
	return w
}

func fix(n int) heap.Word { return heap.Word(n) << 3 }

func ref(place int) heap.Word { return heap.Word(place)<<3 | 3 }

// words is a list of words.
func words(l ...heap.Word) []heap.Word { return l }

// cellsOf returns the graph of some words as a text.
func cellsOf(t *testing.T, h *heap.Heap, l ...heap.Word) string {
	t.Helper()
	cells, fields, e := h.Cells(l)
	fails(t, "Cells", e, api.OK)
	return fmt.Sprint(cells, fields)
}
