package table_test

import (
	"fmt"
	"math/rand"
	"slices"
	"testing"

	"commonform/api"
	"commonform/heap"
	"commonform/table"
)

// model is a table in the simplest way: a list of pairs, of which the first one that fits is taken.
type model struct {
	test         int
	weak         bool
	keys, values []heap.Word
}

// run is a run of any calls on a table and its model, with words that are used as keys and values.
type run struct {
	t    *testing.T
	r    *rand.Rand
	h    *heap.Heap
	m    heap.Word
	l    []heap.Word
	want model
}

// find returns the place of a key, -1 if there is none.
func (x *run) find(key heap.Word) int {
	return slices.IndexFunc(x.want.keys, func(other heap.Word) bool {
		return same(x.t, x.h, x.want.test, other, key)
	})
}

func (x *run) any() heap.Word { return x.l[x.r.Intn(len(x.l))] }

func (x *run) put() string {
	key, value := x.any(), x.any()
	want := api.OK
	switch i := x.find(key); {
	case x.want.weak && key == heap.Unbound:
		want = api.ErrArg
	case i >= 0:
		x.want.values[i] = value
	default:
		x.want.keys, x.want.values = append(x.want.keys, key), append(x.want.values, value)
	}
	what := fmt.Sprint("Put ", key, value)
	fails(x.t, what, table.Put(x.h, x.m, key, value), want)
	return what
}

func (x *run) get() string {
	key := x.any()
	want := got{heap.Nil, false, api.OK}
	if i := x.find(key); i >= 0 {
		want = got{x.want.values[i], true, api.OK}
	}
	what := fmt.Sprint("Get ", key)
	equal(x.t, what, get(x.h, x.m, key), want)
	return what
}

func (x *run) remove() string {
	key := x.any()
	i := x.find(key)
	gone, e := table.Remove(x.h, x.m, key)
	what := fmt.Sprint("Remove ", key)
	equal(x.t, what, []any{gone, e}, []any{i >= 0, api.OK})
	if i >= 0 {
		x.want.keys, x.want.values = slices.Delete(x.want.keys, i, i+1), slices.Delete(x.want.values, i, i+1)
	}
	return what
}

func (x *run) clear() string {
	fails(x.t, "Clear", table.Clear(x.h, x.m), api.OK)
	x.want.keys, x.want.values = nil, nil
	return "Clear"
}

func (x *run) cool() string {
	fails(x.t, "Cool", table.Cool(x.h, x.m), api.OK)
	cool(x.t, x.h, x.m, x.want.test, x.want.weak)
	return "Cool"
}

// change changes a field of a word that may be a key.
func (x *run) change() string {
	w := x.any()
	if w != heap.Nil && x.h.Kind(w) != heap.KindSymbol {
		x.h.Set(w, x.r.Intn(2), x.any())
	}
	return fmt.Sprint("a change of ", w)
}

// all returns all words that are to be known behind a move.
func (x *run) all() []heap.Word {
	return slices.Concat(words(x.m), x.l, x.want.keys, x.want.values)
}

// become takes other words for all.
func (x *run) become(l []heap.Word) {
	x.m = l[0]
	l = l[1:]
	for _, list := range []*[]heap.Word{&x.l, &x.want.keys, &x.want.values} {
		n := len(*list)
		*list = slices.Clone(l[:n])
		l = l[n:]
	}
}

// move lays all objects anew, in any order; now and then without some of the words, which are gone then.
func (x *run) move() string {
	var without []heap.Word
	for range x.r.Intn(3) * x.r.Intn(2) {
		if w := x.any(); w.IsRef() && w != heap.Nil {
			without = append(without, w)
		}
	}
	x.become(keep(x.t, x.r, x.h, x.all(), without))
	if x.want.weak {
		var keys, values []heap.Word
		for i, key := range x.want.keys {
			if key != heap.Unbound {
				keys, values = append(keys, key), append(values, x.want.values[i])
			}
		}
		x.want.keys, x.want.values = keys, values
	}
	return fmt.Sprint("Keep without ", without)
}

// lay takes a copy of the table in another heap, cool or not; its keys and values are its own words then.
func (x *run) lay() string {
	cells, fields, e := x.h.Cells(x.all())
	fails(x.t, "Cells", e, api.OK)
	x.h = newHeap(x.t, 65536)
	for range x.r.Intn(3) {
		made(x.t, x.h, heap.KindBox, 0)
	}
	l, e := x.h.Lay(cells, fields)
	fails(x.t, "Lay", e, api.OK)
	x.become(l)
	return "Lay"
}

// P17.1, P17.3, P17.4, P17.5: any calls, with changes of keys and moves of all objects, against the model.
func TestModel(t *testing.T) {
	r := rand.New(rand.NewSource(173))
	for i := range 320 {
		h := newHeap(t, 65536)
		x := &run{t: t, r: r, h: h, l: anyWords(t, r, h, 5+r.Intn(60)), want: model{test: i % 4, weak: i/4%2 == 0}}
		for range r.Intn(2) * 30 {
			x.l = append(x.l, fix(r.Intn(100)))
		}
		x.m = newTable(t, h, x.want.test, x.want.weak)
		calls := []func() string{x.put, x.put, x.put, x.put, x.put, x.put, x.get, x.get, x.get, x.remove, x.remove, x.cool, x.move}
		rare := []func() string{x.clear, x.lay, x.lay}
		if i/8%2 == 0 {
			calls = append(calls, x.change, x.change)
		}
		for range 120 {
			call := calls[r.Intn(len(calls))]
			if r.Intn(60) == 0 {
				call = rare[r.Intn(len(rare))]
			}
			what := call()
			holds(t, x.h, x.m, x.want.keys, x.want.values)
			test, weak, e := table.Test(x.h, x.m)
			equal(t, "Test", []any{test, weak, e}, []any{x.want.test, x.want.weak, api.OK})
			if t.Failed() {
				t.Fatalf("behind %s, with the test %d", what, x.want.test)
			}
		}
		again := newTable(t, x.h, x.want.test, x.want.weak)
		for i, key := range x.want.keys {
			put(t, x.h, again, key, x.want.values[i])
		}
		if i/8%2 == 1 && !slices.Contains(x.want.keys, heap.Unbound) { // without changes, no two keys are the same
			holds(t, x.h, again, x.want.keys, x.want.values)
		}
	}
}
