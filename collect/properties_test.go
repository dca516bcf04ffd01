package collect_test

import (
	"fmt"
	"math/rand"
	"testing"

	"commonform/api"
	"commonform/collect"
	"commonform/heap"
)

// program is a run that holds its objects by roots alone, so that a collection may come between any two of its steps.
type program struct {
	t     *testing.T
	h     *heap.Heap
	roots []int
}

func newProgram(t *testing.T) (*program, *collect.Collector) {
	h, c := newCollector(t, 3000, 60)
	p := &program{t: t, h: h}
	for range 6 {
		p.roots = append(p.roots, h.Root(heap.Nil))
	}
	return p, c
}

// step does what three numbers say.
func (p *program) step(op, i, j int) {
	a, b := p.roots[i], p.roots[j]
	w, x := at(p.t, p.h, a), at(p.t, p.h, b)
	switch op {
	case 0:
		fails(p.t, "Put", p.h.Put(a, made(p.t, p.h, 9+i, x, 40, w)), api.OK)
	case 1:
		p.h.Set(w, j%3, x)
	case 2:
		y, _ := p.h.Get(w, j%3)
		fails(p.t, "Put", p.h.Put(b, y), api.OK)
	case 3:
		s, e := p.h.Raw(heap.KindString, fmt.Sprint("text ", i, j))
		fails(p.t, "Raw", e, api.OK)
		fails(p.t, "Put", p.h.Put(a, s), api.OK)
	case 4:
		fails(p.t, "Put", p.h.Put(a, x), api.OK)
	}
}

// cells returns the graph of all roots as a text.
func (p *program) cells() string {
	var l []heap.Word
	for _, root := range p.roots {
		l = append(l, at(p.t, p.h, root))
	}
	cells, fields, e := p.h.Cells(l)
	fails(p.t, "Cells", e, api.OK)
	return fmt.Sprint(cells, fields)
}

// P16.2, P16.6: a program with collections at any places has the same objects in the end as one without, and in between; Major leaves just the live objects, Minor all of them.
func TestPrograms(t *testing.T) {
	r := rand.New(rand.NewSource(162))
	for range 300 {
		plain, _ := newProgram(t)
		other, c := newProgram(t)
		often := 1 + r.Intn(10)
		for range 200 {
			op, i, j := r.Intn(5), r.Intn(6), r.Intn(6)
			plain.step(op, i, j)
			other.step(op, i, j)
			if r.Intn(often) > 0 {
				continue
			}
			live := len(c.Live())
			switch r.Intn(3) {
			case 0:
				_, e := c.Major()
				fails(t, "Major", e, api.OK)
				equal(t, "all objects", len(other.h.Objects()), live)
			case 1:
				_, e := c.Minor()
				fails(t, "Minor", e, api.OK)
			case 2:
				full := other.h.Full()
				_, did, e := c.Step()
				equal(t, "Step", []any{did, e}, []any{full, api.OK})
			}
			equal(t, "Live behind a collection", len(c.Live()), live)
			equal(t, "Cells behind a collection", other.cells(), plain.cells())
		}
		equal(t, "Cells in the end", other.cells(), plain.cells())
	}
}

// P16.3: behind Major, and as long as nothing is made, a second Major lets nothing go.
func TestSecondMajor(t *testing.T) {
	r := rand.New(rand.NewSource(163))
	for range 300 {
		h, c := newCollector(t, 1000, 100)
		x := &run{t: t, r: r, h: h, c: c}
		for range 60 {
			x.make()
			x.set()
			x.set()
			x.root()
		}
		_, e := c.Major()
		fails(t, "Major", e, api.OK)
		objects := len(h.Objects())
		second, e := c.Major()
		fails(t, "Major", e, api.OK)
		equal(t, "a second Major", []int{second.After, second.Lost, len(h.Objects())}, []int{second.Before, 0, objects})
		equal(t, "all are old", h.Old(), h.Used())
	}
}
