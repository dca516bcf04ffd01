package table_test

import (
	"fmt"
	"testing"

	"commonform/api"
	"commonform/collect"
	"commonform/heap"
	"commonform/table"
)

// P17.1: what New takes, and what a new table has.
func TestNew(t *testing.T) {
	h := newHeap(t, 100)
	for _, x := range []struct {
		h    *heap.Heap
		test int
		want api.Errno
	}{{nil, 0, api.ErrArg}, {h, -1, api.ErrArg}, {h, 4, api.ErrArg}, {h, 1 << 60, api.ErrArg}} {
		w, e := table.New(x.h, x.test, true)
		equal(t, "New", []any{w, e}, []any{0, x.want})
	}
	for test := range 4 {
		for _, weak := range []bool{false, true} {
			m := newTable(t, h, test, weak)
			got, isWeak, e := table.Test(h, m)
			equal(t, "Test", []any{got, isWeak, e, h.Kind(m), h.Len(m)}, []any{test, weak, api.OK, heap.KindTable, 5})
			holds(t, h, m, nil, nil)
		}
	}
	h = newHeap(t, 64)
	made(t, h, heap.KindVector, make([]heap.Word, 52)...)
	w, e := table.New(h, 0, false)
	equal(t, "no room", []any{w, e, h.Used()}, []any{0, api.ErrWords, 59})
}

// calls are all functions with a table, a key and a value, each with its error and whether its other results are zero.
func calls(h *heap.Heap, m, key, value heap.Word) map[string]func() (api.Errno, bool) {
	return map[string]func() (api.Errno, bool){
		"Test":   func() (api.Errno, bool) { n, weak, e := table.Test(h, m); return e, n == 0 && !weak },
		"Get":    func() (api.Errno, bool) { w, ok, e := table.Get(h, m, key); return e, w == 0 && !ok },
		"Put":    func() (api.Errno, bool) { return table.Put(h, m, key, value), true },
		"Remove": func() (api.Errno, bool) { ok, e := table.Remove(h, m, key); return e, !ok },
		"Clear":  func() (api.Errno, bool) { return table.Clear(h, m), true },
		"Count":  func() (api.Errno, bool) { n, e := table.Count(h, m); return e, n == 0 },
		"Keys":   func() (api.Errno, bool) { l, e := table.Keys(h, m); return e, len(l) == 0 },
		"Values": func() (api.Errno, bool) { l, e := table.Values(h, m); return e, len(l) == 0 },
		"Cool":   func() (api.Errno, bool) { return table.Cool(h, m), true },
	}
}

// P17.1: the errors of all functions, in their order.
func TestErrors(t *testing.T) {
	h := newHeap(t, 300)
	m := newTable(t, h, table.EqlTest, false)
	put(t, h, m, 8, 16)
	pair := cons(t, h, 8, 16)
	noTables := words(0, 8, 777, heap.Unbound, heap.Nil, pair, raw(t, h, heap.KindTable, "12345"), raw(t, h, heap.KindTable, ""),
		made(t, h, heap.KindTable), made(t, h, heap.KindTable, words(8, 0, 0, heap.Nil)...), made(t, h, heap.KindTable, words(heap.Nil, heap.Nil, heap.Nil, heap.Nil, heap.Nil)...),
		made(t, h, heap.KindTable, words(32, 0, 0, heap.Nil, heap.Nil)...), made(t, h, heap.KindTable, words(0, 16, 0, heap.Nil, heap.Nil)...), made(t, h, heap.KindTable, words(0, 0, fix(-1), heap.Nil, heap.Nil)...),
		made(t, h, heap.KindVector, words(0, 0, 0, heap.Nil, heap.Nil)...), made(t, h, heap.KindTable, words(0, 0, 0, heap.Nil, heap.Nil, heap.Nil)...))
	check := func(what string, h *heap.Heap, m, key, value heap.Word, want api.Errno) {
		t.Helper()
		for name, call := range calls(h, m, key, value) {
			if e, zero := call(); e != want || !zero {
				t.Errorf("%s: %s: %v, %t; want %v", what, name, e, zero, want)
			}
		}
	}
	check("a nil heap", nil, 4, 4, 4, api.ErrArg)
	for _, w := range words(4, ref(7), ref(1<<50), 5) {
		check("a bad word", h, w, 4, 4, heap.ErrWord)
		key, value := calls(h, m, w, 8), calls(h, m, 8, w)
		for _, name := range []string{"Get", "Put", "Remove"} {
			e, zero := key[name]()
			equal(t, name+" of a bad key", []any{e, zero}, []any{heap.ErrWord, true})
		}
		e, _ := value["Put"]()
		fails(t, "a bad value", e, heap.ErrWord)
	}
	for _, w := range noTables {
		check("no table", h, w, 4, 4, table.ErrTable)
	}
	holds(t, h, m, words(8), words(16))
	weak := newTable(t, h, table.Eq, true)
	fails(t, "Unbound as a weak key", table.Put(h, weak, heap.Unbound, 8), api.ErrArg)
	fails(t, "Unbound as a weak key, and a bad value", table.Put(h, weak, heap.Unbound, 4), heap.ErrWord)
	equal(t, "Get of it", get(h, weak, heap.Unbound), got{heap.Nil, false, api.OK})
	put(t, h, weak, 8, heap.Unbound)
	put(t, h, m, heap.Unbound, 24)
	holds(t, h, weak, words(8), words(heap.Unbound))
	holds(t, h, m, words(8, heap.Unbound), words(16, 24))
}

// P17.1, P17.3: the examples of the chapter.
func TestExamples(t *testing.T) {
	h := newHeap(t, 300)
	m := newTable(t, h, table.EqualTest, false)
	x := str(t, h, "x")
	put(t, h, m, x, 8)
	put(t, h, m, str(t, h, "x"), fix(5))
	holds(t, h, m, words(x), words(fix(5)))
	m = newTable(t, h, table.EqlTest, false)
	for _, k := range words(fix(3), fix(1), fix(2)) {
		put(t, h, m, k, k)
	}
	gone, e := table.Remove(h, m, fix(3))
	equal(t, "Remove", []any{gone, e}, []any{true, api.OK})
	gone, e = table.Remove(h, m, fix(3))
	equal(t, "Remove once more", []any{gone, e}, []any{false, api.OK})
	put(t, h, m, fix(3), char('a'))
	holds(t, h, m, words(fix(1), fix(2), fix(3)), words(fix(1), fix(2), char('a')))
	equal(t, "Get", []got{get(h, m, fix(3)), get(h, m, fix(4))}, []got{{char('a'), true, api.OK}, {heap.Nil, false, api.OK}})
	fails(t, "Clear", table.Clear(h, m), api.OK)
	holds(t, h, m, nil, nil)
	equal(t, "Get", get(h, m, fix(3)), got{heap.Nil, false, api.OK})
}

// P17.1: which keys are the same by which test.
func TestTests(t *testing.T) {
	for test := range 4 {
		h := newHeap(t, 65536)
		for _, x := range pairs(t, h) {
			for _, weak := range []bool{false, true} {
				if weak && x.a == heap.Unbound {
					continue
				}
				m := newTable(t, h, test, weak)
				for i := range 12 * (x.want % 2) { // with an index, and without one
					put(t, h, m, fix(1000+i), 0)
				}
				put(t, h, m, x.a, fix(7))
				if found := get(h, m, x.b).ok; found != (x.want >= 4-test) {
					t.Errorf("%s: in a table with the test %d the other one is found: %t", x.what, test, found)
				}
			}
		}
	}
}

// cool checks that the fields of a table and its entries are those of a cool one.
func cool(t *testing.T, h *heap.Heap, m heap.Word, test int, weak bool) {
	t.Helper()
	isWeak, kind := 0, heap.KindEntry
	if weak {
		isWeak, kind = 1, heap.KindEphemeron
	}
	keys, _ := table.Keys(h, m)
	values, _ := table.Values(h, m)
	var l []heap.Word
	for i := range 5 {
		w, _ := h.Get(m, i)
		l = append(l, w)
	}
	entry := l[3]
	equal(t, "the fields of a cool table", l, words(fix(test), fix(isWeak), fix(len(keys)), entry, heap.Nil))
	for i, key := range keys {
		next, _ := h.Get(entry, 2)
		k, _ := h.Get(entry, 0)
		v, _ := h.Get(entry, 1)
		last, _ := h.Get(entry, 3)
		equal(t, "an entry", []any{h.Kind(entry), h.Len(entry), k, v, last}, []any{kind, 4, key, values[i], 0})
		entry = next
	}
	equal(t, "behind the last entry", entry, heap.Nil)
}

// P17.1, P17.4: a table that was cooled, also one that was laid in another heap, is as good as any other one; so is a copy of one that was not.
func TestCool(t *testing.T) {
	for _, n := range []int{0, 1, 7, 8, 9, 20, 300} {
		for test := range 4 {
			for _, weak := range []bool{false, true} {
				h := newHeap(t, 20000)
				m := newTable(t, h, test, weak)
				keys := words(m)
				for i := range n {
					key := words(cons(t, h, fix(i), 8), fix(i), str(t, h, fmt.Sprint("key ", i)), char(rune(i)))[i%4]
					keys = append(keys, key)
					put(t, h, m, key, fix(i))
				}
				table.Remove(h, m, keys[len(keys)/2])
				keep, _ := table.Keys(h, m)
				values, _ := table.Values(h, m)
				hot, hotWords, _ := h.Cells(append(words(m), keep...))
				fails(t, "Cool", table.Cool(h, m), api.OK)
				cool(t, h, m, test, weak)
				holds(t, h, m, keep, values)
				cells, fields, _ := h.Cells(append(words(m), keep...))
				use(t, h, m, keep, values)
				fails(t, "Cool once more", table.Cool(h, m), api.OK)
				cool(t, h, m, test, weak)
				other := newHeap(t, 20000)
				l, e := other.Lay(cells, fields)
				fails(t, "Lay", e, api.OK)
				use(t, other, l[0], l[1:], values)
				other = newHeap(t, 20000)
				l, e = other.Lay(hot, hotWords)
				fails(t, "Lay of one that is not cool", e, api.OK)
				use(t, other, l[0], l[1:], values)
			}
		}
	}
}

// use checks that a table with these keys and values does what it should, and leaves it as it was.
func use(t *testing.T, h *heap.Heap, m heap.Word, keys, values []heap.Word) {
	t.Helper()
	for i, key := range keys {
		equal(t, "Get", get(h, m, key), got{values[i], true, api.OK})
	}
	equal(t, "Get of no key", get(h, m, fix(-1)), got{heap.Nil, false, api.OK})
	gone, e := table.Remove(h, m, fix(-1))
	equal(t, "Remove of no key", []any{gone, e}, []any{false, api.OK})
	for i, key := range keys {
		put(t, h, m, key, fix(-i))
	}
	put(t, h, m, fix(-1), 0)
	gone, e = table.Remove(h, m, fix(-1))
	equal(t, "Remove", []any{gone, e}, []any{true, api.OK})
	for i, key := range keys {
		equal(t, "Get", get(h, m, key), got{fix(-i), true, api.OK})
		put(t, h, m, key, values[i])
	}
	holds(t, h, m, keys, values)
}

// P17.1: where a key has no room, nothing has changed; a key that is there needs none.
func TestNoRoom(t *testing.T) {
	for limit := 64; limit < 600; limit += 7 {
		h := newHeap(t, limit)
		m := newTable(t, h, table.EqualTest, false)
		var keys []heap.Word
		for i := 0; ; i++ {
			before := h.Used()
			if e := table.Put(h, m, fix(i), fix(i)); e != api.OK {
				fails(t, "Put", e, api.ErrWords)
				equal(t, "Used behind an error, and whether there was room", []any{h.Used(), before+5 > limit}, []any{before, true})
				break
			}
			keys = append(keys, fix(i))
		}
		holds(t, h, m, keys, keys)
		for i, k := range keys {
			equal(t, "Get in a full heap", get(h, m, k), got{k, true, api.OK})
			put(t, h, m, k, fix(-i))
		}
		fails(t, "Cool", table.Cool(h, m), api.OK)
		equal(t, "Get in a full heap", get(h, m, fix(1)), got{fix(-1), true, api.OK})
		gone, e := table.Remove(h, m, fix(0))
		equal(t, "Remove in a full heap", []any{gone, e}, []any{true, api.OK})
	}
}

// P1: large tables, with all tests.
func TestLargeTables(t *testing.T) {
	for test := range 4 {
		h := newHeap(t, 65536)
		m := newTable(t, h, test, false)
		const n = 4000
		for i := range n {
			put(t, h, m, fix(i), fix(i+1))
		}
		for i := range n {
			if x := get(h, m, fix(i)); x.w != fix(i+1) || !x.ok {
				t.Fatalf("Get(%d) = %v", i, x)
			}
		}
		for i := range n / 2 {
			if gone, _ := table.Remove(h, m, fix(2*i)); !gone {
				t.Fatalf("Remove(%d)", 2*i)
			}
		}
		count, _ := table.Count(h, m)
		equal(t, "Count", []any{count, get(h, m, fix(10)).ok, get(h, m, fix(11)).w}, []any{n / 2, false, fix(12)})
	}
}

// P17.1: keys are told by what they are now, also those that were changed since they were put.
func TestChangedKeys(t *testing.T) {
	for _, n := range []int{0, 20} {
		h := newHeap(t, 2000)
		m := newTable(t, h, table.EqualTest, false)
		a, b := cons(t, h, 8, 8), cons(t, h, 16, 16)
		put(t, h, m, a, fix(1))
		for i := range n {
			put(t, h, m, fix(100+i), 0)
		}
		put(t, h, m, b, fix(2))
		h.Set(a, 0, fix(9))
		equal(t, "the old key", get(h, m, cons(t, h, 8, 8)).ok, false)
		equal(t, "the new one", get(h, m, cons(t, h, fix(9), 8)).w, fix(1))
		h.Set(b, 0, fix(9))
		h.Set(b, 1, 8)
		equal(t, "the first one of both", get(h, m, b).w, fix(1))
		gone, _ := table.Remove(h, m, b)
		equal(t, "the second one, when the first one was removed", []any{gone, get(h, m, a).w}, []any{true, fix(2)})
		m = newTable(t, h, table.EqlTest, false)
		z := made(t, h, heap.KindComplex, 8, 16)
		put(t, h, m, z, fix(6))
		for i := range n {
			put(t, h, m, fix(100+i), 0)
		}
		h.Set(z, 0, 40)
		equal(t, "a complex number", []bool{get(h, m, made(t, h, heap.KindComplex, 8, 16)).ok, get(h, m, made(t, h, heap.KindComplex, 40, 16)).ok, get(h, m, z).ok}, []bool{false, true, true})
		m = newTable(t, h, table.EqualpTest, false)
		v := made(t, h, heap.KindVector, char('a'), 0)
		put(t, h, m, v, fix(3))
		for i := range n {
			put(t, h, m, fix(100+i), 0)
		}
		put(t, h, m, str(t, h, "AB"), fix(4))
		h.Set(v, 1, char('b'))
		equal(t, "a vector ahead of a string", get(h, m, str(t, h, "ab")).w, fix(3))
		h.Set(v, 1, 0)
		put(t, h, m, fix(3), fix(7))
		z = made(t, h, heap.KindComplex, 8, 16)
		put(t, h, m, z, fix(5))
		h.Set(z, 0, raw(t, h, heap.KindSingle, "40400000"))
		h.Set(z, 1, raw(t, h, heap.KindSingle, "00000000"))
		equal(t, "a complex number behind an integer", []heap.Word{get(h, m, fix(3)).w, get(h, m, z).w}, words(fix(7), fix(7)))
		table.Remove(h, m, z)
		equal(t, "without the integer", get(h, m, fix(3)).w, fix(5))
	}
}

// P17.5: a collector takes keys out of a weak table that nobody else holds; values hold no key of their own.
func TestWeakTable(t *testing.T) {
	for _, n := range []int{1, 3, 40} {
		for test := range 4 {
			h := newHeap(t, 5000)
			c, _ := collect.New(h)
			m := newTable(t, h, test, true)
			root := h.Root(m)
			var held []int
			var values []heap.Word
			for i := range n {
				key := made(t, h, heap.KindBox, fix(i))
				put(t, h, m, key, cons(t, h, key, fix(i)))
				if i%3 == 0 {
					held = append(held, h.Root(key))
				}
				put(t, h, m, fix(1000+i), key)
				table.Remove(h, m, fix(1000+i))
			}
			put(t, h, m, char('x'), 40)
			keys, _ := table.Keys(h, m)
			equal(t, "all keys", len(keys), n+1)
			r, e := c.Major()
			equal(t, "Major", []any{r.Lost, e}, []any{n - len(held), api.OK})
			m, _ = h.At(root)
			keys = nil
			for _, root := range held {
				w, _ := h.At(root)
				keys = append(keys, w)
				values = append(values, get(h, m, w).w)
			}
			holds(t, h, m, append(keys, char('x')), append(values, 40))
			equal(t, "Get of Unbound", get(h, m, heap.Unbound).ok, false)
			put(t, h, m, char('y'), 48)
			holds(t, h, m, append(keys, char('x'), char('y')), append(values, 40, 48))
			use(t, h, m, append(keys, char('x'), char('y')), append(values, 40, 48))
			fails(t, "Cool", table.Cool(h, m), api.OK)
			cool(t, h, m, test, true)
			for _, root := range held {
				h.Drop(root)
			}
			c.Major()
			c.Major()
			m, _ = h.At(root)
			holds(t, h, m, words(char('x'), char('y')), words(40, 48))
		}
	}
}

// P1: an object that others made look like a table, with a list that is a circle.
func TestForgedTable(t *testing.T) {
	for index := range 4 {
		for key := range 3 {
			for name := range calls(nil, 0, 0, 0) {
				h := newHeap(t, 1000)
				entry := made(t, h, heap.KindEntry, 8, 16, 0, 0)
				h.Set(entry, 2, entry)
				h.Set(entry, 3, entry)
				vector := made(t, h, heap.KindVector, 0, fix(h.Used()), fix(h.Used()+7), entry, entry, entry)
				m := made(t, h, heap.KindTable, 0, 0, 8, entry, words(heap.Nil, vector, 8, entry)[index])
				calls(h, m, fix(key), 8)[name]()
			}
		}
	}
}
