package collect_test

import (
	"fmt"
	"testing"

	"commonform/api"
	"commonform/collect"
	"commonform/heap"
)

func fails(t *testing.T, what string, got, want api.Errno) {
	t.Helper()
	if got != want {
		t.Errorf("%s: %v; want %v", what, got, want)
	}
}

// short returns what of a value is worth to be printed.
func short(x any) string { return fmt.Sprintf("%.400s", fmt.Sprintf("%+v", x)) }

func equal(t *testing.T, what string, got, want any) {
	t.Helper()
	if fmt.Sprintf("%+v", got) != fmt.Sprintf("%+v", want) {
		t.Errorf("%s = %s; want %s", what, short(got), short(want))
	}
}

// newCollector returns a heap and its collector.
func newCollector(t *testing.T, limit, young int) (*heap.Heap, *collect.Collector) {
	t.Helper()
	h, e := heap.New(limit, young)
	fails(t, "a heap", e, api.OK)
	c, e := collect.New(h)
	fails(t, "a collector", e, api.OK)
	return h, c
}

// made makes an object with these fields.
func made(t *testing.T, h *heap.Heap, kind int, fields ...heap.Word) heap.Word {
	t.Helper()
	w, e := h.New(kind, len(fields))
	fails(t, "a new object", e, api.OK)
	for i, x := range fields {
		fails(t, "Set", h.Set(w, i, x), api.OK)
	}
	return w
}

func ref(place int) heap.Word { return heap.Word(place)<<3 | 3 }

// words is a list of words.
func words(l ...heap.Word) []heap.Word { return l }

// at returns the word of a root.
func at(t *testing.T, h *heap.Heap, root int) heap.Word {
	t.Helper()
	w, e := h.At(root)
	fails(t, "At", e, api.OK)
	return w
}

// fields returns the fields of an object.
func fields(t *testing.T, h *heap.Heap, w heap.Word) []heap.Word {
	t.Helper()
	var l []heap.Word
	for i := range h.Len(w) {
		x, e := h.Get(w, i)
		fails(t, "Get", e, api.OK)
		l = append(l, x)
	}
	return l
}

func major(t *testing.T, c *collect.Collector, promoted, lost int) {
	t.Helper()
	before := c.Heap().Used()
	r, e := c.Major()
	fails(t, "Major", e, api.OK)
	equal(t, "Major", r, collect.Report{Major: true, Before: before, After: c.Heap().Used(), Promoted: promoted, Lost: lost})
}

func minor(t *testing.T, c *collect.Collector, promoted, lost int) {
	t.Helper()
	before := c.Heap().Used()
	r, e := c.Minor()
	fails(t, "Minor", e, api.OK)
	equal(t, "Minor", r, collect.Report{Before: before, After: c.Heap().Used(), Promoted: promoted, Lost: lost})
}
