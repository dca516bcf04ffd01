package table_test

import (
	"fmt"
	"math/rand"
	"slices"
	"strings"
	"testing"

	"commonform/api"
	"commonform/heap"
	"commonform/number"
	"commonform/table"
)

// P17.1: what Eql, Equal, Equalp and Hash do not take.
func TestRelationErrors(t *testing.T) {
	h := newHeap(t, 100)
	for _, same := range relations() {
		ok, e := same(nil, 4, 4)
		equal(t, "a nil heap", []any{ok, e}, []any{false, api.ErrArg})
		for _, w := range words(4, 2|1<<20, 0xD800<<3|1, ref(1), ref(6), ref(1<<50)) {
			for _, pair := range [][2]heap.Word{{w, 8}, {8, w}, {w, w}} {
				ok, e = same(h, pair[0], pair[1])
				equal(t, "a bad word", []any{ok, e}, []any{false, heap.ErrWord})
			}
		}
	}
	for _, x := range []struct {
		h    *heap.Heap
		test int
		w    heap.Word
		want api.Errno
	}{{nil, 9, 4, api.ErrArg}, {h, 9, 4, heap.ErrWord}, {h, -1, 8, api.ErrArg}, {h, 4, 8, api.ErrArg}, {h, 0, 4, heap.ErrWord}, {h, 3, ref(7), heap.ErrWord}} {
		n, e := table.Hash(x.h, x.test, x.w)
		equal(t, "Hash", []any{n, e}, []any{0, x.want})
	}
}

// pairs of words, and the number of tests by which they are the same: 4 eq, 3 eql, 2 equal, 1 equalp alone, 0 none.
func pairs(t *testing.T, h *heap.Heap) []struct {
	what string
	a, b heap.Word
	want int
} {
	r := func(kind int, s string) heap.Word { return raw(t, h, kind, s) }
	m := func(kind int, l ...heap.Word) heap.Word { return made(t, h, kind, l...) }
	s := func(text string) heap.Word { return str(t, h, text) }
	one, zero := r(heap.KindSingle, "3f800000"), r(heap.KindSingle, "00000000")
	array := func(elements []heap.Word, dims ...heap.Word) heap.Word {
		return m(heap.KindArray, m(heap.KindVector, dims...), m(heap.KindVector, elements...))
	}
	long := strings.Repeat("9", 20000)
	return []struct {
		what string
		a, b heap.Word
		want int
	}{
		{"one word", m(heap.KindBox, 8), 8, 0},
		{"fixnums", 8, 8, 4},
		{"fixnums", 8, 16, 0},
		{"Unbound", heap.Unbound, heap.Unbound, 4},
		{"Unbound and NIL", heap.Unbound, heap.Nil, 0},
		{"a fixnum and a character", fix(97), char('a'), 0},
		{"a fixnum as an object", fix(-5), r(heap.KindInt, "-5"), 3},
		{"integers", r(heap.KindInt, "123456789012345678901"), r(heap.KindInt, "123456789012345678901"), 3},
		{"integers", r(heap.KindInt, "123456789012345678901"), r(heap.KindInt, "123456789012345678902"), 0},
		{"long integers", r(heap.KindInt, long), r(heap.KindInt, long), 3},
		{"too long integers", r(heap.KindInt, long+"9"), r(heap.KindInt, long+"9"), 0},
		{"no integers", r(heap.KindInt, "05"), r(heap.KindInt, "05"), 0},
		{"no integers", r(heap.KindInt, "+5"), fix(5), 0},
		{"integers with fields", m(heap.KindInt, 8), m(heap.KindInt, 8), 0},
		{"ratios", r(heap.KindRatio, "1/2"), r(heap.KindRatio, "1/2"), 3},
		{"no ratios", r(heap.KindRatio, "2/4"), r(heap.KindRatio, "1/2"), 0},
		{"no ratios", r(heap.KindRatio, "2/4"), r(heap.KindRatio, "2/4"), 0},
		{"a ratio and a float", r(heap.KindRatio, "1/2"), r(heap.KindSingle, "3f000000"), 1},
		{"a third and a float near it", r(heap.KindRatio, "1/3"), r(heap.KindSingle, "3eaaaaab"), 0},
		{"the example", fix(2), r(heap.KindSingle, "40000000"), 1},
		{"two formats", one, r(heap.KindDouble, "3ff0000000000000"), 1},
		{"zeros", zero, r(heap.KindSingle, "80000000"), 1},
		{"zeros", zero, fix(0), 1},
		{"no floats", r(heap.KindSingle, "7f800000"), r(heap.KindSingle, "7f800000"), 0},
		{"no floats", r(heap.KindSingle, "3F800000"), one, 0},
		{"a float and a string", one, s("3f800000"), 0},
		{"complex numbers", m(heap.KindComplex, 8, 16), m(heap.KindComplex, r(heap.KindInt, "1"), 16), 3},
		{"complex numbers", m(heap.KindComplex, 8, 16), m(heap.KindComplex, 8, 24), 0},
		{"complex floats", m(heap.KindComplex, one, zero), m(heap.KindComplex, one, r(heap.KindSingle, "80000000")), 1},
		{"a complex float and a fixnum", m(heap.KindComplex, one, zero), fix(1), 1},
		{"complex floats and rationals", m(heap.KindComplex, one, one), m(heap.KindComplex, 8, 8), 1},
		{"no complex numbers", m(heap.KindComplex, 8, 0), m(heap.KindComplex, 8, 0), 0},
		{"no complex numbers", m(heap.KindComplex, 8, 0), fix(1), 0},
		{"no complex numbers", m(heap.KindComplex, 8, 16, 24), m(heap.KindComplex, 8, 16, 24), 0},
		{"no complex numbers", m(heap.KindComplex, 8, one), m(heap.KindComplex, 8, one), 0},
		{"no complex numbers", m(heap.KindComplex, 8, char('a')), m(heap.KindComplex, 8, char('a')), 0},
		{"no complex numbers", m(heap.KindComplex, m(heap.KindComplex, 8, 16), 8), m(heap.KindComplex, m(heap.KindComplex, 8, 16), 8), 0},
		{"no complex numbers", r(heap.KindComplex, "ab"), r(heap.KindComplex, "ab"), 0},
		{"characters", char('a'), char('A'), 1},
		{"other letters", char('ä'), char('Ä'), 0},
		{"beside the letters", char('@'), char('`'), 0},
		{"beside the letters", char('['), char('{'), 0},
		{"the last letters", char('Z'), char('z'), 1},
		{"strings", s("Ab"), s("Ab"), 2},
		{"strings", s("Ab"), s("aB"), 1},
		{"strings", s("ab"), s("abc"), 0},
		{"strings", s(""), s(""), 2},
		{"strings with fields", m(heap.KindString, 8), m(heap.KindString, 8), 0},
		{"strings with fields", m(heap.KindString), s(""), 0},
		{"the example", s("Ab"), m(heap.KindVector, char('a'), char('B')), 1},
		{"no UTF-8", s("a\xff"), s("A\ufffd"), 1},
		{"no UTF-8", s("\xff\xfe"), m(heap.KindVector, char(65533), char(65533)), 1},
		{"no UTF-8", s("\xff"), s("\xfe"), 1},
		{"two bytes", s("ä"), m(heap.KindVector, char('ä')), 1},
		{"bits", r(heap.KindBits, "0110"), r(heap.KindBits, "0110"), 2},
		{"bits", r(heap.KindBits, "0110"), r(heap.KindBits, "0111"), 0},
		{"other bytes", r(heap.KindBits, "01a"), r(heap.KindBits, "x10"), 1},
		{"bits and a string", r(heap.KindBits, "01"), s("01"), 0},
		{"no elements", r(heap.KindBits, ""), s(""), 1},
		{"no elements", m(heap.KindVector), s(""), 1},
		{"bits and numbers", r(heap.KindBits, "01"), m(heap.KindVector, zero, one), 1},
		{"conses", cons(t, h, 8, 16), cons(t, h, 8, 16), 2},
		{"conses", cons(t, h, 8, 16), cons(t, h, 8, 24), 0},
		{"conses", cons(t, h, char('a'), s("b")), cons(t, h, char('a'), s("b")), 2},
		{"conses", cons(t, h, char('a'), s("b")), cons(t, h, char('A'), s("B")), 1},
		{"conses of objects", cons(t, h, m(heap.KindBox, 8), 8), cons(t, h, m(heap.KindBox, 8), 8), 0},
		{"three parts", m(heap.KindCons, 8, 8, 8), m(heap.KindCons, 8, 8, 8), 0},
		{"bytes", r(heap.KindCons, "ab"), r(heap.KindCons, "ab"), 0},
		{"vectors", m(heap.KindVector, 8, 16), m(heap.KindVector, 8, 16), 1},
		{"vectors", m(heap.KindVector, 8, 16), m(heap.KindVector, 8), 0},
		{"vectors with bytes", r(heap.KindVector, ""), r(heap.KindVector, ""), 0},
		{"vectors with bytes", r(heap.KindVector, ""), m(heap.KindVector), 0},
		{"a vector in a cons", cons(t, h, m(heap.KindVector, one), 8), cons(t, h, m(heap.KindVector, 8), one), 1},
		{"arrays", array(words(8, 16, 24, 32), 16, 16), array(words(8, one, 24, 32), 16, 16), 0},
		{"arrays", array(words(8, 16), 16, 8), array(words(one, 16), 16, 8), 1},
		{"arrays with other dimensions", array(words(8, 16), 16, 8), array(words(8, 16), 8, 16), 0},
		{"an array and a vector", array(words(8, char('a')), 16), m(heap.KindVector, one, char('A')), 1},
		{"an array and a string", array(words(char('x'), char('y')), 16), s("XY"), 1},
		{"an array and bits", array(words(0, 8), 16), r(heap.KindBits, "01"), 1},
		{"a rank of 0", array(words(s("a"))), array(words(s("A"))), 1},
		{"more elements than the dimension", array(words(8, 8), 8), m(heap.KindVector, 8), 0},
		{"the same words as dimensions", array(words(8), r(heap.KindInt, "1")), array(words(8), r(heap.KindInt, "1")), 0},
		{"no arrays", m(heap.KindArray, m(heap.KindVector), s("")), m(heap.KindArray, m(heap.KindVector), s("")), 0},
		{"no arrays", m(heap.KindArray, 8, m(heap.KindVector)), m(heap.KindArray, 8, m(heap.KindVector)), 0},
		{"no arrays", m(heap.KindArray, m(heap.KindVector)), m(heap.KindArray, m(heap.KindVector)), 0},
		{"no arrays", m(heap.KindArray), m(heap.KindArray), 0},
		{"no arrays", r(heap.KindArray, "ab"), r(heap.KindArray, "ab"), 0},
		{"an array and a cons", cons(t, h, 8, 8), m(heap.KindVector, 8, 8), 0},
		{"symbols", m(heap.KindSymbol, 8, 8), m(heap.KindSymbol, 8, 8), 0},
		{"boxes", m(heap.KindBox, 8), m(heap.KindBox, 8), 0},
		{"tables", newTable(t, h, 1, false), newTable(t, h, 1, false), 0},
	}
}

// P17.1, P17.2: the relations of many pairs, with the examples; and their hashes.
func TestPairs(t *testing.T) {
	h := newHeap(t, 65536)
	for _, x := range pairs(t, h) {
		if n := sameBy(t, h, x.a, x.b); n != x.want {
			t.Errorf("%s: the same by %d tests; want %d", x.what, n, x.want)
		}
		for _, w := range words(x.a, x.b) {
			if n := sameBy(t, h, w, w); n != 4 {
				t.Errorf("%s: the same as itself by %d tests", x.what, n)
			}
		}
		for test := range 4 {
			a, _ := table.Hash(h, test, x.a)
			b, _ := table.Hash(h, test, x.b)
			if same(t, h, test, x.a, x.b) && a != b {
				t.Errorf("%s: two hashes for the test %d", x.what, test)
			}
		}
	}
}

// P17.2: circles end soon, also where their lengths have nothing in common.
func TestCircles(t *testing.T) {
	h := newHeap(t, 65536)
	circle := func(n int, last heap.Word) heap.Word {
		end := cons(t, h, last, heap.Nil)
		l := end
		for range n - 1 {
			l = cons(t, h, 8, l)
		}
		h.Set(end, 1, l)
		return l
	}
	a, b, d := circle(5000, 8), circle(5003, 8), circle(7, 16)
	if n := sameBy(t, h, a, b); n != 2 {
		t.Errorf("two circles are the same by %d tests", n)
	}
	if n := sameBy(t, h, a, d); n != 0 {
		t.Errorf("two different circles are the same by %d tests", n)
	}
	v, w := made(t, h, heap.KindVector, 8, 8), made(t, h, heap.KindVector, 8, 8)
	h.Set(v, 1, w)
	h.Set(w, 1, v)
	if n := sameBy(t, h, v, w); n != 1 {
		t.Errorf("two vectors of one another are the same by %d tests", n)
	}
	x := cons(t, h, 0, 0)
	h.Set(x, 0, x)
	h.Set(x, 1, x)
	y := heap.Nil
	for range 4000 {
		y = cons(t, h, x, y)
	}
	if n := sameBy(t, h, x, y); n != 0 {
		t.Errorf("a tree without an end is the same as a list by %d tests", n)
	}
	deep, other := x, x
	for range 1000 { // 2^1000 paths
		deep, other = cons(t, h, deep, deep), cons(t, h, other, other)
	}
	if n := sameBy(t, h, deep, other); n != 2 {
		t.Errorf("two deep trees are the same by %d tests", n)
	}
}

// judge decides a relation straight from its definition: of all pairs that a pair needs those are taken away that do not hold, until all others do.
type judge struct {
	h    *heap.Heap
	test int
}

func (j judge) fields(w heap.Word) []heap.Word {
	var l []heap.Word
	for i := range j.h.Len(w) {
		x, _ := j.h.Get(w, i)
		l = append(l, x)
	}
	return l
}

// shape returns the parts of an object, and a text that is the same for all objects that agree if their parts do ("": no such object).
func (j judge) shape(w heap.Word) (string, []heap.Word) {
	bytes, e := j.h.Bytes(w)
	isRaw, l := e == api.OK, j.fields(w)
	vector := func(w heap.Word) bool {
		_, e := j.h.Bytes(w)
		return j.h.Kind(w) == heap.KindVector && e == heap.ErrRaw
	}
	var parts []heap.Word
	dims := ""
	switch kind := j.h.Kind(w); {
	case kind == heap.KindCons && !isRaw && len(l) == 2 && j.test >= table.EqualTest:
		return "cons", l
	case j.test != table.EqualpTest:
		return "", nil
	case kind == heap.KindString && isRaw:
		for _, c := range []rune(bytes) {
			parts = append(parts, char(c))
		}
	case kind == heap.KindBits && isRaw:
		for i := range len(bytes) {
			parts = append(parts, fix(strings.Count(bytes[i:i+1], "1")))
		}
	case vector(w):
		parts = l
	case kind == heap.KindArray && !isRaw && len(l) == 2 && vector(l[0]) && vector(l[1]):
		parts = j.fields(l[1])
		dims = fmt.Sprint(j.fields(l[0]))
	default:
		return "", nil
	}
	if dims == "" {
		dims = fmt.Sprint(words(fix(len(parts))))
	}
	return fmt.Sprint("array ", dims, len(parts)), parts
}

// form returns the form of a number.
func (j judge) form(w heap.Word) (api.Form, bool) {
	f := api.Form{Kind: j.h.Kind(w)}
	if n, ok := w.Fixnum(); ok {
		f = api.Form{Kind: api.FormInt, Text: fmt.Sprint(n)}
	} else if text, e := j.h.Bytes(w); e == api.OK {
		f.Text = text
	} else if f.Kind != api.FormComplex {
		return f, false
	} else {
		for _, part := range j.fields(w) {
			if j.h.Kind(part) == heap.KindComplex {
				return f, false
			}
			kid, ok := j.form(part)
			if !ok {
				return f, false
			}
			f.Kids = append(f.Kids, kid)
		}
	}
	return f, number.Check(f) == api.OK
}

func (j judge) agree(a, b heap.Word) bool {
	f, isNumber := j.form(a)
	g, other := j.form(b)
	if isNumber && other {
		equals, _ := number.Equals(f, g)
		return j.test == table.EqualpTest && equals || fmt.Sprint(f) == fmt.Sprint(g)
	}
	s, e := j.h.Bytes(a)
	u, e2 := j.h.Bytes(b)
	kind := j.h.Kind(a)
	if j.test >= table.EqualTest && e == api.OK && e2 == api.OK && kind == j.h.Kind(b) && (kind == heap.KindString || kind == heap.KindBits) && s == u {
		return true
	}
	c, ok := a.Character()
	d, okay := b.Character()
	return a == b || j.test == table.EqualpTest && ok && okay && c < 128 && d < 128 && strings.EqualFold(string(c), string(d))
}

// holds returns what a pair needs, and whether it may hold.
func (j judge) holds(pair [2]heap.Word) ([][2]heap.Word, bool) {
	if j.agree(pair[0], pair[1]) {
		return nil, true
	}
	shape, parts := j.shape(pair[0])
	other, others := j.shape(pair[1])
	if shape == "" || shape != other {
		return nil, false
	}
	var needs [][2]heap.Word
	for i, x := range parts {
		needs = append(needs, [2]heap.Word{x, others[i]})
	}
	return needs, true
}

func (j judge) same(a, b heap.Word) bool {
	first := [2]heap.Word{a, b}
	needs := map[[2]heap.Word][][2]heap.Word{}
	left := map[[2]heap.Word]bool{}
	for todo := [][2]heap.Word{first}; len(todo) > 0; todo = todo[1:] {
		if _, met := left[todo[0]]; met {
			continue
		}
		more, ok := j.holds(todo[0])
		needs[todo[0]], left[todo[0]] = more, ok
		todo = append(todo, more...)
	}
	for changed := true; changed; {
		changed = false
		for pair, ok := range left {
			if ok && slices.ContainsFunc(needs[pair], func(x [2]heap.Word) bool { return !left[x] }) {
				left[pair] = false
				changed = true
			}
		}
	}
	return left[first]
}

// anyWords fills a heap with words that are often the same by one test or another.
func anyWords(t *testing.T, r *rand.Rand, h *heap.Heap, n int) []heap.Word {
	l := words(8, 16, 0, char('a'), char('A'), heap.Unbound, heap.Nil, fix(-1))
	texts := []struct {
		kind  int
		texts string
	}{{heap.KindString, " a A aa"}, {heap.KindBits, " 0 1 01"}, {heap.KindInt, "1 01 2"}, {heap.KindSingle, "3f800000 00000000 80000000 7f800000"}, {heap.KindDouble, "3ff0000000000000"}, {heap.KindRatio, "1/2 2/4"}}
	fielded := []int{heap.KindCons, heap.KindCons, heap.KindCons, heap.KindVector, heap.KindVector, heap.KindArray, heap.KindComplex, heap.KindSymbol}
	for range n {
		x := texts[r.Intn(len(texts))]
		all := strings.Split(x.texts, " ")
		w := heap.Word(0)
		switch kind := fielded[r.Intn(len(fielded))]; {
		case r.Intn(3) == 0:
			w = raw(t, h, x.kind, all[r.Intn(len(all))])
		case kind == heap.KindVector:
			w = made(t, h, kind, make([]heap.Word, r.Intn(4))...)
		default:
			w = made(t, h, kind, make([]heap.Word, 2+r.Intn(12)/11)...)
		}
		l = append(l, w)
	}
	for _, w := range l {
		for i := range h.Len(w) {
			if w != heap.Nil {
				h.Set(w, i, l[r.Intn(len(l))])
			}
		}
	}
	return l
}

// P17.1, P17.2: the relations against their definition; each one is a part of the next one, and an equivalence; the same words have the same hash.
func TestAgainstDefinition(t *testing.T) {
	r := rand.New(rand.NewSource(171))
	for range 150 {
		h := newHeap(t, 2000)
		l := anyWords(t, r, h, 30)
		for test := table.EqlTest; test <= table.EqualpTest; test++ {
			for range 80 {
				a, b := l[r.Intn(len(l))], l[r.Intn(len(l))]
				if got, want := same(t, h, test, a, b), (judge{h, test}).same(a, b); got != want {
					t.Fatalf("the test %d of %d and %d: %t; want %t", test, a, b, got, want)
				}
				sameBy(t, h, a, b)
			}
		}
		equivalence(t, h, l)
	}
}

// equivalence checks that words that are the same as one word are the same as one another, and have one hash.
func equivalence(t *testing.T, h *heap.Heap, l []heap.Word) {
	t.Helper()
	for test := range 4 {
		for _, a := range l {
			hash, e := table.Hash(h, test, a)
			fails(t, "Hash", e, api.OK)
			var alike []heap.Word
			for _, b := range l {
				if same(t, h, test, a, b) {
					alike = append(alike, b)
				}
			}
			for _, b := range alike {
				if other, _ := table.Hash(h, test, b); other != hash {
					t.Errorf("the test %d: %d and %d have two hashes", test, a, b)
				}
				if !same(t, h, test, alike[0], b) {
					t.Errorf("the test %d: %d is the same as %d and %d, which are not the same", test, a, alike[0], b)
				}
			}
		}
	}
}

// P17.1, P17.2: behind Keep all words are the same as before; and have the same hash by Equal and Equalp.
func TestMoved(t *testing.T) {
	r := rand.New(rand.NewSource(172))
	for range 50 {
		h := newHeap(t, 2000)
		l := anyWords(t, r, h, 25)
		tell := func() string {
			out := ""
			for test := range 4 {
				for _, a := range l {
					if test >= table.EqualTest {
						hash, _ := table.Hash(h, test, a)
						out += fmt.Sprint(hash, " ")
					}
					for _, b := range l {
						out += fmt.Sprint(same(t, h, test, a, b), " ")
					}
				}
			}
			return out
		}
		before := tell()
		l = shuffle(t, r, h, l)
		equal(t, "behind Keep", tell() == before, true)
	}
}

// shuffle lays all objects anew in any order, and returns where these words are then.
func shuffle(t *testing.T, r *rand.Rand, h *heap.Heap, l []heap.Word) []heap.Word {
	t.Helper()
	return keep(t, r, h, l, nil)
}

// keep does so without some objects.
func keep(t *testing.T, r *rand.Rand, h *heap.Heap, l, without []heap.Word) []heap.Word {
	t.Helper()
	all := slices.DeleteFunc(h.Objects()[1:], func(w heap.Word) bool { return slices.Contains(without, w) })
	r.Shuffle(len(all), func(i, j int) { all[i], all[j] = all[j], all[i] })
	cut := r.Intn(len(all) + 1)
	var roots []int
	for _, w := range l {
		roots = append(roots, h.Root(w))
	}
	fails(t, "Keep", h.Keep(all[:cut], all[cut:]), api.OK)
	var moved []heap.Word
	for _, root := range roots {
		w, _ := h.At(root)
		moved = append(moved, w)
		h.Drop(root)
	}
	return moved
}
