package table_test

import (
	"fmt"

	"commonform/collect"
	"commonform/heap"
	"commonform/table"
)

// The fourth example of README.md.
func Example() {
	h, _ := heap.New(4096, 1024)
	key, _ := h.Raw(heap.KindString, "key")
	h.Raw(heap.KindString, "garbage")
	m, _ := table.New(h, table.EqualTest, false)
	five, _ := heap.Fix(5)
	code := table.Put(h, m, key, five)
	root := h.Root(m)

	c, _ := collect.New(h)
	report, _ := c.Major()
	m, _ = h.At(root)

	same, _ := h.Raw(heap.KindString, "key")
	w, there, _ := table.Get(h, m, same)
	n, _ := w.Fixnum()
	fmt.Println(code, report.Before-report.After, n, there)
	// Output: 0 2 5 true
}
