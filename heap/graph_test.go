package heap_test

import (
	"slices"
	"strings"
	"testing"

	"commonform/api"
	"commonform/heap"
)

// P15.1: the order of the graph: all that is met from a field comes ahead of the next one.
func TestCells(t *testing.T) {
	h := newHeap(t, 200, 200)
	last := raw(t, h, heap.KindString, "last")
	shared := made(t, h, heap.KindBox, 8)
	left := made(t, h, heap.KindCons, shared, heap.Nil)
	right := made(t, h, heap.KindVector, left, shared, heap.Unbound)
	top := made(t, h, heap.KindCons, left, right)
	h.Set(shared, 0, top)
	h.Set(heap.Nil, 2, right) // NIL is met, but not its fields
	cells, fields, e := h.Cells(words(777, top, heap.Nil, last, shared))
	equal(t, "Cells", []any{cells, fields, e}, []any{[]heap.Cell{
		{Kind: heap.KindCons, Fields: []heap.Field{{Object: 1}, {Object: 3}}},
		{Kind: heap.KindCons, Fields: []heap.Field{{Object: 2}, {Object: -2}}},
		{Kind: heap.KindBox, Fields: []heap.Field{{Object: 0}}},
		{Kind: heap.KindVector, Fields: []heap.Field{{Object: 1}, {Object: 2}, {Word: heap.Unbound, Object: -1}}},
		{Kind: heap.KindString, Raw: true, Bytes: "last"},
	}, []heap.Field{{Word: 777, Object: -1}, {Object: 0}, {Object: -2}, {Object: 4}, {Object: 2}}, api.OK})
	cells, fields, e = h.Cells(words(heap.Nil))
	equal(t, "Cells of NIL", []any{cells, fields, e}, []any{[]heap.Cell{}, []heap.Field{{Object: -2}}, api.OK})
	cells, fields, e = h.Cells(nil)
	equal(t, "Cells of nothing", []any{cells, fields, e}, []any{[]heap.Cell{}, []heap.Field{}, api.OK})
	for _, w := range words(4, ref(7), ref(1<<50)) {
		cells, fields, e = h.Cells(words(top, w))
		equal(t, "Cells of a bad word", []any{cells, fields, e}, []any{[]heap.Cell{}, []heap.Field{}, heap.ErrWord})
	}
}

// P15.1: the example of the chapter.
func TestCellsOfCircle(t *testing.T) {
	h := newHeap(t, 64, 64)
	pair := made(t, h, heap.KindCons, 40, 0)
	h.Set(pair, 1, pair)
	equal(t, "Cells", cellsOf(t, h, pair), "[{10 false  [{40 -1} {0 0}]}] [{0 0}]")
}

// P1: long lists and deep nesting.
func TestDeepCells(t *testing.T) {
	h := newHeap(t, 65536, 65536)
	chain := heap.Nil
	for range 21000 {
		chain = made(t, h, heap.KindCons, chain, chain)
	}
	cells, _, e := h.Cells(words(chain))
	equal(t, "a chain", []any{len(cells), e}, []any{21000, api.OK})
	again, e := newHeap(t, 65536, 65536).Lay(cells[:20000], nil)
	equal(t, "Lay of a reference behind all cells", []any{again, e}, []any{words(), heap.ErrWord})
	cells = cells[1000:]
	for i := range cells {
		cells[i].Fields = []heap.Field{object(min(i+1, 19999)), object(i)}
	}
	again, e = newHeap(t, 65536, 65536).Lay(cells, []heap.Field{object(19999)})
	equal(t, "Lay of 20000 cells", []any{again, e}, []any{words(ref(6 + 3*19999)), api.OK})
}

func immediate(w heap.Word) heap.Field { return heap.Field{Word: w, Object: -1} }

func object(i int) heap.Field { return heap.Field{Object: i} }

// P15.1: the errors of Lay, in their order; a heap that has not changed.
func TestLayErrors(t *testing.T) {
	h := newHeap(t, 100, 100)
	pair := made(t, h, heap.KindCons, 0, 0)
	box := func(f heap.Field) heap.Cell { return heap.Cell{Kind: heap.KindBox, Fields: []heap.Field{f}} }
	many := slices.Repeat([]heap.Cell{box(immediate(0))}, 20001)
	many[0].Kind = 99
	wide := heap.Cell{Kind: 1, Fields: slices.Repeat([]heap.Field{immediate(0)}, 16385)}
	long := heap.Cell{Kind: 1, Raw: true, Bytes: strings.Repeat("x", 131073)}
	badBox, rawBox := box(immediate(4)), heap.Cell{Kind: heap.KindBox, Raw: true, Bytes: "x", Fields: []heap.Field{immediate(0)}}
	fits := slices.Repeat([]heap.Cell{box(immediate(0))}, 45)
	for _, x := range []struct {
		what  string
		cells []heap.Cell
		words []heap.Field
		want  api.Errno
	}{
		{"too many cells", many, nil, api.ErrArg},
		{"a kind", []heap.Cell{{Kind: 0}}, nil, api.ErrArg},
		{"a kind", []heap.Cell{{Kind: 32, Raw: true}}, nil, api.ErrArg},
		{"too many fields", []heap.Cell{wide}, nil, api.ErrArg},
		{"too many bytes", []heap.Cell{long}, nil, api.ErrArg},
		{"bytes and fields", []heap.Cell{rawBox}, nil, heap.ErrRaw},
		{"bytes that are not raw", []heap.Cell{{Kind: 1, Bytes: "x"}}, nil, heap.ErrRaw},
		{"a kind ahead of bytes", []heap.Cell{{Kind: 0, Bytes: "x"}}, nil, api.ErrArg},
		{"fields ahead of words", []heap.Cell{{Kind: 1, Bytes: "x", Fields: []heap.Field{immediate(4)}}}, nil, heap.ErrRaw},
		{"a bad word", []heap.Cell{badBox}, nil, heap.ErrWord},
		{"a reference", []heap.Cell{box(immediate(heap.Nil))}, nil, heap.ErrWord},
		{"a reference", []heap.Cell{box(immediate(pair))}, nil, heap.ErrWord},
		{"a word beside an object", []heap.Cell{box(heap.Field{Word: 8, Object: 0})}, nil, heap.ErrWord},
		{"a word beside NIL", []heap.Cell{box(heap.Field{Word: heap.Nil, Object: -2})}, nil, heap.ErrWord},
		{"no cell", []heap.Cell{box(object(1))}, nil, heap.ErrWord},
		{"no cell", []heap.Cell{box(object(-3))}, nil, heap.ErrWord},
		{"the first cell", []heap.Cell{badBox, {Kind: 0}}, nil, heap.ErrWord},
		{"the first cell", []heap.Cell{rawBox, badBox}, nil, heap.ErrRaw},
		{"cells ahead of words", []heap.Cell{{Kind: 0}}, []heap.Field{immediate(4)}, api.ErrArg},
		{"words", []heap.Cell{box(object(-2))}, []heap.Field{object(0), object(1)}, heap.ErrWord},
		{"words", nil, []heap.Field{object(0)}, heap.ErrWord},
		{"words", nil, []heap.Field{immediate(5)}, heap.ErrWord},
		{"words ahead of room", slices.Repeat(fits, 2), []heap.Field{immediate(5)}, heap.ErrWord},
		{"no room", append(slices.Clone(fits), box(immediate(0))), nil, api.ErrWords},
	} {
		l, e := h.Lay(x.cells, x.words)
		equal(t, x.what, []any{l, e, h.Used(), h.Objects()}, []any{words(), x.want, 9, words(3, pair)})
	}
	l, e := h.Lay(append(fits, heap.Cell{Kind: 1}), nil)
	equal(t, "just room", []any{l, e, h.Used()}, []any{words(), api.OK, 100})
	l, e = h.Lay(nil, []heap.Field{immediate(777), object(-2)})
	equal(t, "no cells", []any{l, e}, []any{words(777, 3), api.OK})
}

// P15.1, P15.4: all cells are made, in order, also those that no word has.
func TestLay(t *testing.T) {
	h := newHeap(t, 100, 100)
	cells := []heap.Cell{
		{Kind: heap.KindCons, Fields: []heap.Field{object(1), object(0)}},
		{Kind: heap.KindString, Raw: true, Bytes: "twelve bytes"},
		{Kind: heap.KindVector},
		{Kind: heap.KindBits, Raw: true},
		{Kind: heap.KindCons, Fields: []heap.Field{object(-2), immediate(heap.Unbound)}},
	}
	l, e := h.Lay(cells, []heap.Field{object(0), immediate(777), object(-2), object(0)})
	equal(t, "Lay", []any{l, e, h.Used(), h.Old(), h.Objects()}, []any{words(51, 777, 3, 51), api.OK, 17, 6, words(3, ref(6), ref(9), ref(12), ref(13), ref(14))})
	equal(t, "its graph", cellsOf(t, h, l...), "[{10 false  [{0 1} {0 0}]} {8 true twelve bytes []}] [{0 0} {777 -1} {0 -2} {0 0}]")
	equal(t, "the last cell", cellsOf(t, h, ref(14)), "[{10 false  [{0 -2} {2 -1}]}] [{0 0}]")
	cells[0].Fields[0] = immediate(0)
	equal(t, "behind a change of the argument", answerOf(h.Get(51, 0)), answer{ref(9), api.OK})
}

// P15.1: the errors of Keep, in their order; a heap that has not changed.
func TestKeepErrors(t *testing.T) {
	h := newHeap(t, 100, 100)
	a, b := made(t, h, heap.KindBox, 8), made(t, h, heap.KindBox, 16)
	for _, x := range []struct {
		old, young []heap.Word
		want       api.Errno
	}{
		{words(a, 8), nil, heap.ErrWord}, {nil, words(ref(7)), heap.ErrWord}, {words(a), words(b, heap.Unbound), heap.ErrWord}, {words(4), nil, heap.ErrWord},
		{words(a, a, 4), nil, heap.ErrWord}, {words(a), words(a, 4), heap.ErrWord}, {words(heap.Nil), words(4), heap.ErrWord},
		{words(a, b, a), nil, api.ErrTwice}, {nil, words(b, b), api.ErrTwice}, {words(a), words(b, a), api.ErrTwice}, {words(heap.Nil), nil, api.ErrTwice}, {words(a), words(heap.Nil), api.ErrTwice},
	} {
		fails(t, short(x), h.Keep(x.old, x.young), x.want)
		equal(t, "behind an error", []any{h.Objects(), h.Old(), h.Moves(), answerOf(h.Get(b, 0))}, []any{words(3, a, b), 6, 0, answer{16, api.OK}})
	}
}

// P15.1: Keep lays objects in the order of the lists, and makes references to objects that are gone Unbound.
func TestKeep(t *testing.T) {
	h := newHeap(t, 100, 100)
	a := made(t, h, heap.KindBox, 8)
	b := raw(t, h, heap.KindString, "bytes that look like a reference")
	c := made(t, h, heap.KindVector, a, b, heap.Nil, 777)
	h.Set(a, 0, c)
	h.Set(heap.Nil, 1, a)
	h.Set(heap.Nil, 2, c)
	roots := []int{h.Root(a), h.Root(b), h.Root(c), h.Root(40)}
	fails(t, "Keep", h.Keep(words(c), words(b)), api.OK)
	equal(t, "behind Keep", []any{h.Objects(), h.Old(), h.Used(), h.Moves()}, []any{words(3, ref(6), ref(11)), 11, 16, 1})
	equal(t, "the vector", cellsOf(t, h, ref(6)), "[{11 false  [{2 -1} {0 1} {0 -2} {777 -1}]} {8 true bytes that look like a reference []}] [{0 0}]")
	equal(t, "NIL", []answer{answerOf(h.Get(heap.Nil, 1)), answerOf(h.Get(heap.Nil, 2)), answerOf(h.Get(heap.Nil, 0))}, []answer{{heap.Unbound, 0}, {ref(6), 0}, {heap.Nil, 0}})
	for i, want := range words(heap.Unbound, ref(11), ref(6), 40) {
		equal(t, "a root", answerOf(h.At(roots[i])), answer{want, api.OK})
	}
	fails(t, "Keep", h.Keep(nil, words(ref(11), ref(6))), api.OK)
	equal(t, "the other order", []any{h.Objects(), h.Old(), h.Moves(), answerOf(h.At(roots[2]))}, []any{words(3, ref(6), ref(11)), 6, 2, answer{ref(11), 0}})
	fails(t, "Keep of nothing", h.Keep(nil, nil), api.OK)
	equal(t, "Keep of nothing", []any{h.Objects(), h.Used(), h.Moves()}, []any{words(3), 6, 3})
}
