package collect_test

import (
	"testing"

	"commonform/api"
	"commonform/collect"
	"commonform/heap"
)

// P16.1: nil heaps and collectors; and one that New did not return, as if it were nil.
func TestNil(t *testing.T) {
	c, e := collect.New(nil)
	if c != nil || e != api.ErrArg {
		t.Errorf("New(nil) = %v, %v", c, e)
	}
	for _, c := range []*collect.Collector{nil, {}} {
		r, e := c.Minor()
		equal(t, "Minor", []any{r, e}, []any{collect.Report{}, api.ErrArg})
		r, e = c.Major()
		equal(t, "Major", []any{r, e}, []any{collect.Report{}, api.ErrArg})
		r, did, e := c.Step()
		equal(t, "Step", []any{r, did, e}, []any{collect.Report{}, false, api.ErrArg})
		fails(t, "Watch", c.Watch(4, 1), api.ErrArg)
		if c.Heap() != nil || len(c.Live())+len(c.Ended())+len(c.Watched()) != 0 {
			t.Error("a nil collector has something")
		}
	}
	h, c := newCollector(t, 64, 64)
	if c.Heap() != h || len(c.Ended())+len(c.Watched()) != 0 {
		t.Error("a new collector")
	}
}

// P16.1: the first example of the chapter.
func TestMajorExample(t *testing.T) {
	h, c := newCollector(t, 100, 100)
	made(t, h, heap.KindCons, 8, 16)
	root := h.Root(made(t, h, heap.KindCons, 24, 32))
	major(t, c, 0, 0)
	equal(t, "behind one", []any{at(t, h, root), h.Objects(), h.Old(), fields(t, h, 51)}, []any{51, words(3, 51), 6, words(24, 32)})
	major(t, c, 1, 0)
	equal(t, "behind two", []any{at(t, h, root), h.Objects(), h.Old()}, []any{51, words(3, 51), 9})
	h.Drop(root)
	major(t, c, 0, 0)
	equal(t, "without a root", h.Objects(), words(3))
}

// P16.1, P16.3: an object that two collections keep is old, whichever they are; old ones stand first, each sort by its places.
func TestGenerations(t *testing.T) {
	type collection func(*testing.T, *collect.Collector, int, int)
	for _, two := range [][2]collection{{minor, minor}, {minor, major}, {major, minor}, {major, major}} {
		h, c := newCollector(t, 200, 200)
		a := h.Root(made(t, h, heap.KindBox, 8))
		two[0](t, c, 0, 0)
		b := h.Root(made(t, h, heap.KindBox, 16))
		equal(t, "behind one", []any{h.Old(), at(t, h, a), at(t, h, b)}, []any{6, ref(6), ref(8)})
		two[1](t, c, 1, 0)
		equal(t, "behind two", []any{h.Old(), at(t, h, a), at(t, h, b)}, []any{8, ref(6), ref(8)})
		third := h.Root(made(t, h, heap.KindBox, 24))
		made(t, h, heap.KindBox, 32)
		h.Drop(a)
		minor(t, c, 1, 0)
		equal(t, "Minor keeps old objects", []any{h.Objects(), h.Old(), at(t, h, b), at(t, h, third)}, []any{words(3, ref(6), ref(8), ref(10)), 10, ref(8), ref(10)})
		major(t, c, 1, 0)
		equal(t, "Major does not", []any{h.Objects(), h.Old(), at(t, h, b), at(t, h, third)}, []any{words(3, ref(6), ref(8)), 10, ref(6), ref(8)})
	}
}

// P16.1: old objects hold young ones in Minor, also those that nobody holds; in Major they do not.
func TestRemembered(t *testing.T) {
	h, c := newCollector(t, 200, 200)
	root := h.Root(made(t, h, heap.KindBox, 8))
	minor(t, c, 0, 0)
	minor(t, c, 1, 0)
	old := at(t, h, root)
	h.Set(old, 0, made(t, h, heap.KindBox, 16))
	h.Drop(root)
	minor(t, c, 0, 0)
	equal(t, "behind Minor", []any{h.Objects(), c.Live()}, []any{words(3, ref(6), ref(8)), words(3)})
	major(t, c, 0, 0)
	equal(t, "behind Major", h.Objects(), words(3))
	h.Set(heap.Nil, 2, made(t, h, heap.KindBox, 24))
	equal(t, "what NIL holds", c.Live(), words(3, ref(6)))
	minor(t, c, 0, 0)
	major(t, c, 1, 0)
	equal(t, "what NIL holds", h.Objects(), words(3, ref(6)))
}

// P16.1: if somebody else calls Keep, young objects have no age.
func TestForeignKeep(t *testing.T) {
	h, c := newCollector(t, 200, 200)
	root := h.Root(made(t, h, heap.KindBox, 8))
	minor(t, c, 0, 0)
	fails(t, "Keep", h.Keep(nil, words(at(t, h, root))), api.OK)
	minor(t, c, 0, 0)
	minor(t, c, 1, 0)
	other, _ := collect.New(h)
	second := h.Root(made(t, h, heap.KindBox, 16))
	minor(t, c, 0, 0)
	minor(t, other, 0, 0)
	minor(t, c, 0, 0)
	minor(t, c, 1, 0)
	equal(t, "two collectors", []any{h.Old(), at(t, h, second)}, []any{10, ref(8)})
}

// P16.1: Step does nothing as long as the heap is not full, and Major if Minor leaves more than half of it.
func TestStep(t *testing.T) {
	h, c := newCollector(t, 64, 10)
	root := h.Root(made(t, h, heap.KindVector, make([]heap.Word, 9)...))
	r, did, e := c.Step()
	equal(t, "ten young words", []any{r, did, e, h.Used(), h.Moves()}, []any{collect.Report{}, false, api.OK, 16, 0})
	made(t, h, heap.KindBox)
	r, did, e = c.Step()
	equal(t, "eleven young words", []any{r, did, e, h.Moves()}, []any{collect.Report{Before: 17, After: 16}, true, api.OK, 1})
	// 32 words are half of the limit, and 33 are more
	h.Put(root, made(t, h, heap.KindVector, append(make([]heap.Word, 14), at(t, h, root))...))
	r, did, e = c.Step()
	equal(t, "half of the limit", []any{r, did, e}, []any{collect.Report{Before: 32, After: 32, Promoted: 1}, true, api.OK})
	h.Put(root, made(t, h, heap.KindVector, at(t, h, root)))
	made(t, h, heap.KindBox)
	r, did, e = c.Step()
	equal(t, "more than half, behind Minor", []any{r, did, e, h.Used()}, []any{collect.Report{Major: true, Before: 34, After: 34, Promoted: 1}, true, api.OK, 34})
	h.Drop(root)
	made(t, h, heap.KindVector, make([]heap.Word, 10)...)
	r, did, e = c.Step()
	equal(t, "all behind Major", []any{r, did, e, h.Used()}, []any{collect.Report{Major: true, Before: 34, After: 6}, true, api.OK, 6})
}

// P16.4: the other examples of the chapter.
func TestWeakExamples(t *testing.T) {
	h, c := newCollector(t, 100, 100)
	lost := made(t, h, heap.KindCons, 8, 16)
	root := h.Root(made(t, h, heap.KindWeak, lost))
	major(t, c, 0, 1)
	equal(t, "the weak reference", fields(t, h, at(t, h, root)), words(heap.Unbound))
	key := made(t, h, heap.KindCons, 8, 16)
	value := made(t, h, heap.KindCons, key, 0)
	root = h.Root(made(t, h, heap.KindEphemeron, key, value))
	major(t, c, 1, 1)
	equal(t, "the ephemeron", []any{fields(t, h, at(t, h, root)), h.Used()}, []any{words(heap.Unbound, heap.Unbound), 6 + 2 + 3})
}

// P16.4: what weak references hold, and what they lose.
func TestWeak(t *testing.T) {
	h, c := newCollector(t, 500, 500)
	held := made(t, h, heap.KindBox, 8)
	mine := made(t, h, heap.KindBox, 16)
	roots := []int{h.Root(held), h.Root(made(t, h, heap.KindWeak, held)), h.Root(made(t, h, heap.KindWeak, mine)), h.Root(made(t, h, heap.KindWeak, 777)),
		h.Root(made(t, h, heap.KindWeak, 40, made(t, h, heap.KindBox, 24))), h.Root(made(t, h, heap.KindWeak)), h.Root(made(t, h, heap.KindWeak, mine, held, mine))}
	bytes, _ := h.Raw(heap.KindWeak, "12345678")
	roots = append(roots, h.Root(bytes))
	made(t, h, heap.KindWeak, mine) // goes itself, and counts for nothing
	major(t, c, 0, 2)
	box := at(t, h, roots[0])
	for i, want := range [][]heap.Word{words(8), words(box), words(heap.Unbound), words(777), words(40, heap.Unbound), words(), words(heap.Unbound, box, heap.Unbound)} {
		equal(t, "a weak object", fields(t, h, at(t, h, roots[i])), want)
	}
	s, e := h.Bytes(at(t, h, roots[7]))
	equal(t, "one with bytes", []any{s, e}, []any{"12345678", api.OK})
	major(t, c, 8, 0)
}

// P16.4: an old weak object loses a young one with Minor, and an old one with Major alone.
func TestWeakGenerations(t *testing.T) {
	h, c := newCollector(t, 500, 500)
	weak := h.Root(made(t, h, heap.KindWeak, 0))
	box := h.Root(made(t, h, heap.KindBox, 0))
	minor(t, c, 0, 0)
	minor(t, c, 2, 0)
	h.Set(at(t, h, weak), 0, at(t, h, box))
	h.Drop(box)
	minor(t, c, 0, 0)
	equal(t, "an old object", fields(t, h, at(t, h, weak)), words(ref(8)))
	major(t, c, 0, 1)
	h.Set(at(t, h, weak), 0, made(t, h, heap.KindBox, 8))
	minor(t, c, 0, 1)
	equal(t, "a young object", []any{fields(t, h, at(t, h, weak)), h.Used()}, []any{words(heap.Unbound), 8})
}

// P16.4: keys of all sorts; ephemerons that need one another; what an ephemeron holds besides.
func TestEphemerons(t *testing.T) {
	h, c := newCollector(t, 500, 500)
	box := func(w heap.Word) heap.Word { return made(t, h, heap.KindBox, w) }
	pair := func(l ...heap.Word) heap.Word { return made(t, h, heap.KindEphemeron, l...) }
	key := box(0)
	// the value of each one is the key of the next one; they are asked in the other order
	a, b, d := box(8), box(16), box(24)
	last := h.Root(pair(b, d))
	middle := h.Root(pair(a, b))
	first := h.Root(pair(key, a))
	root := h.Root(key)
	fixed := h.Root(pair(40, box(32), box(40), heap.Unbound))
	unbound := h.Root(pair(heap.Unbound, box(48)))
	lost := h.Root(pair(box(56), key, box(64)))
	short := h.Root(pair(box(72)))
	empty := h.Root(pair())
	bytes, _ := h.Raw(heap.KindEphemeron, "abcdefghijklmnopqrstuvwx")
	rawOne := h.Root(bytes)
	used := h.Used()
	major(t, c, 0, 1)
	equal(t, "Used", h.Used(), used-2) // the lost key alone
	value := func(root int) heap.Word { return fields(t, h, at(t, h, root))[1] }
	equal(t, "a chain", []any{fields(t, h, value(first)), fields(t, h, value(middle)), fields(t, h, value(last))}, []any{words(8), words(16), words(24)})
	equal(t, "an immediate key", []any{fields(t, h, value(fixed)), fields(t, h, value(unbound))}, []any{words(32), words(48)})
	l := fields(t, h, at(t, h, lost))
	equal(t, "a lost key", []any{l[:2], fields(t, h, l[2])}, []any{words(heap.Unbound, heap.Unbound), words(64)})
	equal(t, "others", []any{fields(t, h, fields(t, h, at(t, h, short))[0]), h.Len(at(t, h, empty)), h.Len(at(t, h, rawOne))}, []any{words(72), 0, 24})
	h.Drop(root)
	major(t, c, 14, 3) // with its key the chain is gone; so each of its three keys is lost
	for _, root := range []int{first, middle, last} {
		equal(t, "a chain without its key", fields(t, h, at(t, h, root)), words(heap.Unbound, heap.Unbound))
	}
}

// P1: long chains of ephemerons, in the order in which they are met and in the other one.
func TestLongChains(t *testing.T) {
	for _, backward := range []bool{false, true} {
		h, c := newCollector(t, api.MaxWords, api.MaxWords)
		const n = 10000
		var keys, pairs []heap.Word
		for range n + 1 {
			keys = append(keys, made(t, h, heap.KindVector))
		}
		list := made(t, h, heap.KindVector, make([]heap.Word, n)...)
		h.Root(list)
		for i := range n {
			pairs = append(pairs, made(t, h, heap.KindEphemeron, keys[i], keys[i+1]))
		}
		for i, w := range pairs {
			at := i
			if backward {
				at = n - 1 - i
			}
			h.Set(list, at, w)
		}
		root := h.Root(keys[0])
		major(t, c, 0, 0)
		h.Drop(root)
		major(t, c, n+1, n)
		equal(t, "Used", h.Used(), 6+1+n+3*n)
	}
}
