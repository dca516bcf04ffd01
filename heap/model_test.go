package heap_test

import (
	"fmt"
	"math/rand"
	"slices"
	"strings"
	"testing"

	"commonform/api"
	"commonform/heap"
)

// node is an object of a model: references are pointers, places are counted anew each time.
type node struct {
	kind   int
	raw    bool
	bytes  string
	fields []value
}

// value is an immediate word, or a node.
type value struct {
	w  heap.Word
	to *node
}

// model is a heap in the simplest way.
type model struct {
	limit, young int
	nodes        []*node // the first object, the old ones, the young ones
	old          int
	roots        map[int]value
	next, moves  int
}

func newModel(limit, young int) *model {
	first := &node{kind: heap.KindSymbol}
	for range 5 {
		first.fields = append(first.fields, value{to: first})
	}
	return &model{limit: limit, young: young, nodes: []*node{first}, old: 1, roots: map[int]value{}}
}

func (n *node) size() int {
	if n.raw {
		return 1 + (len(n.bytes)+7)/8
	}
	return 1 + len(n.fields)
}

// places returns the place of each node, and behind them how many words are used.
func (m *model) places() (map[*node]int, int) {
	places, at := map[*node]int{}, 0
	for _, n := range m.nodes {
		places[n] = at
		at += n.size()
	}
	return places, at
}

// word returns the word of a value.
func word(v value, places map[*node]int) heap.Word {
	if v.to == nil {
		return v.w
	}
	return ref(places[v.to])
}

// value returns what a word is: false for a bad one, and for one that is no reference to an object.
func (m *model) value(w heap.Word) (value, bool) {
	if w.IsRef() {
		places, _ := m.places()
		for n, place := range places {
			if ref(place) == w {
				return value{to: n}, true
			}
		}
		return value{}, false
	}
	_, fixnum := w.Fixnum()
	_, character := w.Character()
	return value{w: w}, fixnum || character || w == heap.Unbound
}

// keep returns what is left of a value.
func kept(v value, left map[*node]bool) value {
	if v.to != nil && !left[v.to] {
		return value{w: heap.Unbound}
	}
	return v
}

func (m *model) keep(old, young []*node) {
	m.nodes = slices.Concat(m.nodes[:1], old, young)
	m.old = 1 + len(old)
	left := map[*node]bool{}
	for _, n := range m.nodes {
		left[n] = true
	}
	for _, n := range m.nodes {
		for i, v := range n.fields {
			n.fields[i] = kept(v, left)
		}
	}
	for root, v := range m.roots {
		m.roots[root] = kept(v, left)
	}
	m.moves++
}

// met returns the nodes of the graph of some values, by recursion.
func (m *model) met(values []value) []*node {
	var l []*node
	var meet func(values []value)
	meet = func(values []value) {
		for _, v := range values {
			if v.to != nil && v.to != m.nodes[0] && !slices.Contains(l, v.to) {
				l = append(l, v.to)
				meet(v.to.fields)
			}
		}
	}
	meet(values)
	return l
}

// cells returns the graph of some values as a text.
func (m *model) cells(values []value) string {
	met := m.met(values)
	fields := func(l []value) []heap.Field {
		var out []heap.Field
		for _, v := range l {
			switch {
			case v.to == nil:
				out = append(out, heap.Field{Word: v.w, Object: -1})
			case v.to == m.nodes[0]:
				out = append(out, heap.Field{Object: -2})
			default:
				out = append(out, heap.Field{Object: slices.Index(met, v.to)})
			}
		}
		return out
	}
	var cells []heap.Cell
	for _, n := range met {
		cells = append(cells, heap.Cell{Kind: n.kind, Raw: n.raw, Bytes: n.bytes, Fields: fields(n.fields)})
	}
	return fmt.Sprint(cells, fields(values))
}

// same checks all that can be seen of a heap.
func same(t *testing.T, what string, h *heap.Heap, m *model) {
	t.Helper()
	places, used := m.places()
	oldWords := used
	if m.old < len(m.nodes) {
		oldWords = places[m.nodes[m.old]]
	}
	var objects, remembered []heap.Word
	for i, n := range m.nodes {
		w := ref(places[n])
		objects = append(objects, w)
		young := func(v value) bool { return v.to != nil && places[v.to] >= oldWords }
		if i < m.old && slices.ContainsFunc(n.fields, young) {
			remembered = append(remembered, w)
		}
		fields, bytes := []heap.Word{}, any("")
		for i := range n.fields {
			x, e := h.Get(w, i)
			fails(t, what+": Get", e, api.OK)
			fields = append(fields, x)
		}
		want := []heap.Word{}
		for _, v := range n.fields {
			want = append(want, word(v, places))
		}
		if n.raw {
			s, e := h.Bytes(w)
			fails(t, what+": Bytes", e, api.OK)
			bytes = s
		}
		equal(t, what+": an object", []any{h.Kind(w), h.Len(w), h.Place(w), fields, bytes}, []any{n.kind, len(n.fields) + len(n.bytes), places[n], want, n.bytes})
	}
	var roots []int
	for root := range m.roots {
		roots = append(roots, root)
	}
	slices.Sort(roots)
	equal(t, what, []any{h.Used(), h.Limit(), h.Full(), h.Old(), h.Moves(), h.Objects(), h.Remembered(), h.Roots()},
		[]any{used, m.limit, used-oldWords > m.young, oldWords, m.moves, objects, remembered, roots})
	for root, v := range m.roots {
		equal(t, what+": a root", answerOf(h.At(root)), answer{word(v, places), api.OK})
	}
}

// run is a run of any calls on a heap and its model.
type run struct {
	t *testing.T
	r *rand.Rand
	h *heap.Heap
	m *model
}

// word returns any word; now and then a bad one, or one of no object.
func (x run) word() heap.Word {
	switch x.r.Intn(12) {
	case 0:
		return badWords()[x.r.Intn(len(badWords()))]
	case 1:
		return ref(x.r.Intn(x.h.Used() + 3))
	case 2:
		return words(0, fix(x.r.Intn(50)-20), 777, heap.Unbound, heap.Nil)[x.r.Intn(5)]
	}
	all := x.h.Objects()
	return all[x.r.Intn(len(all))]
}

// object returns a word, and its node, if there is one.
func (x run) object() (heap.Word, *node) {
	w := x.word()
	v, _ := x.m.value(w)
	return w, v.to
}

func (x run) make() string {
	n := &node{kind: x.r.Intn(34) - 1, raw: x.r.Intn(3) == 0}
	want := answer{e: api.ErrArg}
	_, used := x.m.places()
	if n.raw {
		n.bytes = strings.Repeat("a\xffb\x00", 10)[:x.r.Intn(20)]
	} else {
		for range x.r.Intn(5) {
			n.fields = append(n.fields, value{to: x.m.nodes[0]})
		}
	}
	switch {
	case n.kind < 1 || n.kind > 31:
	case used+n.size() > x.m.limit:
		want.e = api.ErrWords
	default:
		want = answer{w: ref(used)}
		x.m.nodes = append(x.m.nodes, n)
	}
	if n.raw {
		equal(x.t, "Raw", answerOf(x.h.Raw(n.kind, n.bytes)), want)
	} else {
		equal(x.t, "New", answerOf(x.h.New(n.kind, len(n.fields))), want)
	}
	return "a new object"
}

func (x run) set() string {
	w, n := x.object()
	i, to := x.r.Intn(5)-1, x.word()
	v, ok := x.m.value(to)
	want := api.OK
	switch {
	case n == nil:
		want = heap.ErrWord
	case n.raw:
		want = heap.ErrRaw
	case i < 0 || i >= len(n.fields):
		want = api.ErrRange
	case !ok:
		want = heap.ErrWord
	default:
		n.fields[i] = v
	}
	what := fmt.Sprint("Set ", w, i, to)
	fails(x.t, what, x.h.Set(w, i, to), want)
	return what
}

func (x run) root() string {
	w, root := x.word(), x.r.Intn(x.m.next+2)-1
	v, ok := x.m.value(w)
	_, there := x.m.roots[root]
	switch x.r.Intn(3) {
	case 0:
		want := -1
		if ok {
			want = x.m.next
			x.m.roots[want] = v
			x.m.next++
		}
		equal(x.t, "Root", x.h.Root(w), want)
	case 1:
		want := api.ErrNone
		if there {
			want = api.OK
			delete(x.m.roots, root)
		}
		fails(x.t, "Drop", x.h.Drop(root), want)
	case 2:
		want := api.ErrNone
		switch {
		case there && ok:
			want = api.OK
			x.m.roots[root] = v
		case there:
			want = heap.ErrWord
		}
		fails(x.t, "Put", x.h.Put(root, w), want)
	}
	return "a root"
}

// keep keeps any objects, in any order; now and then one twice, or none.
func (x run) keep() string {
	var lists [2][]heap.Word
	var nodes [2][]*node
	want := api.OK
	places, _ := x.m.places()
	seen := map[*node]bool{x.m.nodes[0]: true}
	most := x.r.Intn(len(x.m.nodes)) + 1
	for _, i := range x.r.Perm(len(x.m.nodes))[:most] {
		n := x.m.nodes[i]
		if i == 0 && x.r.Intn(20) > 0 {
			continue
		}
		to := x.r.Intn(2)
		lists[to] = append(lists[to], ref(places[n]))
		nodes[to] = append(nodes[to], n)
		if seen[n] {
			want = api.ErrTwice
		}
		seen[n] = true
	}
	if x.r.Intn(10) == 0 {
		w, n := x.object()
		lists[1] = append(lists[1], w)
		nodes[1] = append(nodes[1], n)
		switch {
		case n == nil:
			want = heap.ErrWord
		case seen[n]:
			want = api.ErrTwice
		}
	}
	if want == api.OK {
		x.m.keep(nodes[0], nodes[1])
	}
	what := fmt.Sprint("Keep ", lists)
	fails(x.t, what, x.h.Keep(lists[0], lists[1]), want)
	return what
}

func (x run) cells() string {
	var l []heap.Word
	var values []value
	right := true
	for range x.r.Intn(4) {
		w := x.word()
		v, ok := x.m.value(w)
		l, values, right = append(l, w), append(values, v), right && ok
	}
	cells, fields, e := x.h.Cells(l)
	if right {
		equal(x.t, "Cells", fmt.Sprint(cells, fields), x.m.cells(values))
	} else {
		equal(x.t, "Cells", []any{cells, fields, e}, []any{words(), words(), heap.ErrWord})
	}
	return "Cells"
}

// copy lays the graph of any words once more.
func (x run) copy() string {
	all := x.h.Objects()
	l := words(all[x.r.Intn(len(all))], all[x.r.Intn(len(all))], 40)
	var values []value
	for _, w := range l {
		v, _ := x.m.value(w)
		values = append(values, v)
	}
	cells, fields, _ := x.h.Cells(l)
	copies := map[*node]*node{x.m.nodes[0]: x.m.nodes[0]}
	places, used := x.m.places()
	met := x.m.met(values)
	need := 0
	for _, n := range met {
		c := *n
		copies[n] = &c
		need += c.size()
	}
	again, e := x.h.Lay(cells, fields)
	if used+need > x.m.limit {
		fails(x.t, "Lay", e, api.ErrWords)
		return "Lay without room"
	}
	fails(x.t, "Lay", e, api.OK)
	copied := func(l []value) []value {
		l = slices.Clone(l)
		for i, v := range l {
			if v.to != nil {
				l[i].to = copies[v.to]
			}
		}
		return l
	}
	for _, n := range met {
		copies[n].fields = copied(n.fields)
		x.m.nodes = append(x.m.nodes, copies[n])
	}
	places, _ = x.m.places()
	var want []heap.Word
	for _, v := range copied(values) {
		want = append(want, word(v, places))
	}
	equal(x.t, "Lay", again, want)
	equal(x.t, "Cells of what Lay returns", cellsOf(x.t, x.h, again...), fmt.Sprint(cells, fields))
	return "Lay"
}

// P15.1, P15.3, P15.4, P15.5: any calls, against the model.
func TestModel(t *testing.T) {
	r := rand.New(rand.NewSource(153))
	for range 400 {
		limit := 64 + r.Intn(120)
		young := 1 + r.Intn(limit)
		x := run{t, r, newHeap(t, limit, young), newModel(limit, young)}
		calls := []func() string{x.make, x.make, x.make, x.set, x.set, x.set, x.set, x.root, x.root, x.cells, x.copy, x.keep}
		for range 60 {
			what := calls[r.Intn(len(calls))]()
			same(t, what, x.h, x.m)
			if t.Failed() {
				t.Fatalf("behind %s", what)
			}
		}
	}
}
