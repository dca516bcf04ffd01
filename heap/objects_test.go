package heap_test

import (
	"strings"
	"testing"

	"commonform/api"
	"commonform/heap"
)

// P15.1: the kinds have the numbers of the chapter.
func TestKinds(t *testing.T) {
	equal(t, "the kinds", []int{
		heap.KindSymbol, heap.KindInt, heap.KindRatio, heap.KindSingle, heap.KindDouble, heap.KindComplex, heap.KindString, heap.KindBits, heap.KindCons, heap.KindVector, heap.KindArray,
		heap.KindTable, heap.KindEntry, heap.KindClosure, heap.KindCode, heap.KindBuiltin, heap.KindClass, heap.KindInstance, heap.KindGeneric, heap.KindMethod, heap.KindWeak, heap.KindPackage, heap.KindBox, heap.KindEphemeron, heap.KindLast,
	}, []int{1, 2, 3, 4, 5, 6, 8, 9, 10, 11, 12, 13, 14, 15, 16, 17, 18, 19, 20, 21, 22, 23, 24, 25, 31})
	equal(t, "the errors", []api.Errno{heap.ErrWord, heap.ErrRaw}, []int{170, 171})
}

// P15.1: which heaps there are, and what a new one has.
func TestNewHeap(t *testing.T) {
	for _, x := range []struct {
		limit, young int
		want         api.Errno
	}{
		{63, 1, api.ErrArg}, {64, 0, api.ErrArg}, {64, 65, api.ErrArg}, {65537, 1, api.ErrArg}, {-1, -1, api.ErrArg}, {64, -5, api.ErrArg},
		{64, 1, api.OK}, {64, 64, api.OK}, {65536, 65536, api.OK}, {65536, 1, api.OK},
	} {
		h, e := heap.New(x.limit, x.young)
		if e != x.want || (h == nil) != (e != api.OK) {
			t.Errorf("New(%d, %d) = %v, %v; want %v", x.limit, x.young, h, e, x.want)
		}
		if e != api.OK {
			continue
		}
		equal(t, "a new heap", []any{h.Used(), h.Limit(), h.Full(), h.Objects(), h.Old(), h.Remembered(), h.Roots(), h.Moves(), h.Kind(heap.Nil), h.Len(heap.Nil), h.Place(heap.Nil)},
			[]any{6, x.limit, false, words(heap.Nil), 6, words(), []int{}, 0, heap.KindSymbol, 5, 0})
		for i := range 5 {
			equal(t, "a field of NIL", answerOf(h.Get(heap.Nil, i)), answer{heap.Nil, api.OK})
		}
	}
}

// P15.1, P15.3: which objects can be made, and how many words they take.
func TestSizes(t *testing.T) {
	h := newHeap(t, 65536, 65536)
	used := 6
	takes := func(what string, w heap.Word, e api.Errno, kind, length, size int) {
		t.Helper()
		equal(t, what, []any{w, e, h.Kind(w), h.Len(w), h.Place(w), h.Used()}, []any{ref(used), api.OK, kind, length, used, used + size})
		used += size
	}
	for _, n := range []int{0, 1, 2, 7, 16384} {
		w, e := h.New(1+n%31, n)
		takes("New", w, e, 1+n%31, n, 1+n)
		for i := range n {
			if x, e := h.Get(w, i); x != heap.Nil || e != api.OK {
				t.Fatalf("the field %d of %d is %d, %v", i, n, x, e)
			}
		}
	}
	for _, n := range []int{0, 1, 7, 8, 9, 16, 17, 131072} {
		bytes := strings.Repeat("\x00\xff\x80abcdefgh", n)[:n]
		w, e := h.Raw(31-n%31, bytes)
		takes("Raw", w, e, 31-n%31, n, 1+(n+7)/8)
		if got, e := h.Bytes(w); got != bytes || e != api.OK {
			t.Errorf("Bytes of %d bytes: %q, %v", n, short(got), e)
		}
	}
}

// P15.1: objects that cannot be made, and the limit of words.
func TestNoObject(t *testing.T) {
	h := newHeap(t, 64, 64)
	for _, x := range []struct {
		kind, fields int
		want         api.Errno
	}{
		{0, 1, api.ErrArg}, {-1, 1, api.ErrArg}, {32, 1, api.ErrArg}, {1, -1, api.ErrArg}, {1, 16385, api.ErrArg}, {0, 100, api.ErrArg},
		{1, 16384, api.ErrWords}, {31, 58, api.ErrWords}, {1, 1 << 60, api.ErrArg}, {1, -1 << 60, api.ErrArg},
	} {
		equal(t, "New", answerOf(h.New(x.kind, x.fields)), answer{0, x.want})
	}
	long := strings.Repeat("x", 131073)
	for _, x := range []struct {
		kind  int
		bytes string
		want  api.Errno
	}{
		{0, "", api.ErrArg}, {32, "", api.ErrArg}, {1, long, api.ErrArg}, {-7, long, api.ErrArg}, {1, long[1:], api.ErrWords}, {8, long[:457], api.ErrWords},
	} {
		equal(t, "Raw", answerOf(h.Raw(x.kind, x.bytes)), answer{0, x.want})
	}
	equal(t, "Used", h.Used(), 6)
	full := made(t, h, 31, make([]heap.Word, 57)...)
	equal(t, "a full heap", []any{full, h.Used(), answerOf(h.New(1, 0)), answerOf(h.Raw(1, ""))}, []any{51, 64, answer{0, api.ErrWords}, answer{0, api.ErrWords}})
	h = newHeap(t, 64, 64)
	raw(t, h, 8, long[:456])
	equal(t, "a heap full of bytes", h.Used(), 64)
}

// P15.1: words that are no references to objects, objects of the wrong sort, indices that are none; in this order.
func TestObjectErrors(t *testing.T) {
	h := newHeap(t, 200, 50)
	pair := made(t, h, heap.KindCons, 8, 16)
	text := raw(t, h, heap.KindString, "abcdefghij")
	empty := raw(t, h, heap.KindString, "")
	none := made(t, h, heap.KindVector)
	bad := append(badWords(), 0, 8, 777, heap.Unbound, ref(1), ref(7), ref(10), ref(h.Used()), ref(1<<20), ref(1<<60), ref(200))
	for _, w := range bad {
		equal(t, "no object", []any{h.Kind(w), h.Len(w), h.Place(w), answerOf(h.Get(w, 0))}, []any{0, 0, -1, answer{0, heap.ErrWord}})
		fails(t, "Set", h.Set(w, -1, 4), heap.ErrWord)
		if s, e := h.Bytes(w); s != "" || e != heap.ErrWord {
			t.Errorf("Bytes(%d) = %q, %v", w, s, e)
		}
	}
	for _, w := range words(text, empty) {
		equal(t, "Get of bytes", []answer{answerOf(h.Get(w, 0)), answerOf(h.Get(w, -1))}, []answer{{0, heap.ErrRaw}, {0, heap.ErrRaw}})
		fails(t, "Set of bytes", h.Set(w, 100, 4), heap.ErrRaw)
	}
	for _, w := range words(pair, none, heap.Nil) {
		s, e := h.Bytes(w)
		equal(t, "Bytes of fields", []any{s, e}, []any{"", heap.ErrRaw})
	}
	for _, i := range []int{-1, 2, 1 << 40, -1 << 62} {
		equal(t, "Get of no field", answerOf(h.Get(pair, i)), answer{0, api.ErrRange})
		fails(t, "Set of no field", h.Set(pair, i, 4), api.ErrRange)
	}
	equal(t, "Get of no field", answerOf(h.Get(none, 0)), answer{0, api.ErrRange})
	for _, w := range append(badWords(), ref(1), ref(7), ref(1<<60)) {
		fails(t, "Set to a bad word", h.Set(pair, 1, w), heap.ErrWord)
	}
	equal(t, "the cons", cellsOf(t, h, pair), "[{10 false  [{8 -1} {16 -1}]}] [{0 0}]")
}

// P15.1: Full, and Remembered, with the examples.
func TestSpaces(t *testing.T) {
	h := newHeap(t, 100, 5)
	a := made(t, h, heap.KindBox, 0)
	b := made(t, h, heap.KindCons, a, heap.Nil)
	equal(t, "five young words", []any{h.Full(), h.Old()}, []any{false, 6})
	made(t, h, heap.KindBox)
	equal(t, "six young words", h.Full(), true)
	fails(t, "Keep", h.Keep(words(b), words(a)), api.OK)
	equal(t, "behind Keep", []any{h.Full(), h.Old(), h.Used(), h.Objects(), h.Remembered(), h.Moves()}, []any{false, 9, 11, words(3, ref(6), ref(9)), words(ref(6)), 1})
	h.Set(heap.Nil, 4, ref(9))
	equal(t, "NIL refers to a young object", h.Remembered(), words(3, ref(6)))
	h.Set(ref(6), 0, heap.Unbound)
	h.Set(ref(9), 0, ref(9))
	equal(t, "the cons does no more", h.Remembered(), words(3))
	h.Set(heap.Nil, 4, ref(6))
	equal(t, "references to old objects", h.Remembered(), words())
}

// P15.1: what a nil heap answers; and one that New did not return, as if it were nil.
func TestNilHeap(t *testing.T) {
	for _, h := range []*heap.Heap{nil, {}} {
		var all []api.Errno
		_, e := h.New(1, 1)
		all = append(all, e)
		_, e = h.Raw(0, "")
		all = append(all, e)
		_, e = h.Get(heap.Nil, 0)
		all = append(all, e)
		all = append(all, h.Set(heap.Nil, 0, 0))
		_, e = h.Bytes(heap.Nil)
		all = append(all, e)
		_, e = h.At(0)
		all = append(all, e, h.Put(0, 4), h.Drop(0))
		_, _, e = h.Cells(words(4))
		all = append(all, e)
		_, e = h.Lay(nil, nil)
		all = append(all, e, h.Keep(nil, nil))
		for i, e := range all {
			if e != api.ErrArg {
				t.Errorf("the call %d of a nil heap: %v; want ErrArg", i, e)
			}
		}
		_, e = h.At(0)
		cells, fields, _ := h.Cells(nil)
		l, _ := h.Lay(nil, nil)
		bytes, _ := h.Bytes(heap.Nil)
		equal(t, "the words of a nil heap", []any{answerOf(h.At(0)), answerOf(h.New(1, 1)), answerOf(h.Raw(1, "")), answerOf(h.Get(heap.Nil, 0)), cells, fields, l, bytes},
			[]any{answer{e: e}, answer{e: e}, answer{e: e}, answer{e: e}, []heap.Cell{}, []heap.Field{}, words(), ""})
		equal(t, "a nil heap", []any{h.Place(heap.Nil), h.Root(0), h.Kind(heap.Nil), h.Len(heap.Nil), h.Used(), h.Limit(), h.Full(), h.Objects(), h.Old(), h.Remembered(), h.Roots(), h.Moves()},
			[]any{-1, -1, 0, 0, 0, 0, false, words(), 0, words(), []int{}, 0})
	}
}

// P15.1: roots have numbers of their own, each used once.
func TestRoots(t *testing.T) {
	h := newHeap(t, 100, 100)
	pair := made(t, h, heap.KindCons, 0, 0)
	equal(t, "Root", []int{h.Root(pair), h.Root(4), h.Root(ref(7)), h.Root(heap.Unbound), h.Root(777)}, []int{0, -1, -1, 1, 2})
	fails(t, "Drop", h.Drop(2), api.OK)
	fails(t, "Drop", h.Drop(0), api.OK)
	equal(t, "Root behind Drop", []any{h.Root(pair), h.Roots()}, []any{3, []int{1, 3}})
	for _, root := range []int{0, 2, 4, -1, 1 << 60} {
		equal(t, "At of no root", answerOf(h.At(root)), answer{0, api.ErrNone})
		fails(t, "Put to no root", h.Put(root, 4), api.ErrNone)
		fails(t, "Drop of no root", h.Drop(root), api.ErrNone)
	}
	fails(t, "Put", h.Put(1, pair), api.OK)
	fails(t, "Put of a bad word", h.Put(3, 4), heap.ErrWord)
	fails(t, "Put of no object", h.Put(3, ref(8)), heap.ErrWord)
	equal(t, "At", []answer{answerOf(h.At(1)), answerOf(h.At(3))}, []answer{{pair, api.OK}, {pair, api.OK}})
	fails(t, "Keep", h.Keep(nil, nil), api.OK)
	equal(t, "At behind Keep", []answer{answerOf(h.At(1)), answerOf(h.At(3))}, []answer{{heap.Unbound, api.OK}, {heap.Unbound, api.OK}})
}
