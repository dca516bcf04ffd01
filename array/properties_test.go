package array_test

import (
	"math/rand"
	"slices"
	"testing"

	"commonform/api"
	"commonform/array"
)

// P11.2: Index and Subscripts undo each other, and the last subscript is the fastest.
func TestIndices(t *testing.T) {
	for _, dims := range [][]int{nil, {7}, {2, 3}, {3, 1, 4}, {2, 2, 2, 2, 2, 2, 2}, {1, 2000}, {4, 0}} {
		r := array.NewRoom()
		a := made(t, r, plain(-1, dims...), whole(0))
		total, _ := r.Total(a)
		var before []int
		for i := range total {
			at, e := array.Subscripts(dims, i)
			if e != api.OK || i > 0 && slices.Compare(before, at) >= 0 {
				t.Errorf("Subscripts(%v, %d) = %v, %v behind %v", dims, i, at, e, before)
			}
			before = slices.Clone(at)
			n, e := r.Index(a, at)
			equal(t, "Index of Subscripts", []any{n, e}, []any{i, 0})
		}
	}
}

// P11.3: two elements are told apart by Where just if setting one does not change the other one.
func TestWhere(t *testing.T) {
	r := rand.New(rand.NewSource(113))
	room := array.NewRoom()
	for i := range 12 {
		a := plain(-1, 3+r.Intn(4))
		if i > 2 {
			to, _ := room.Of(r.Intn(i))
			a = displaced(r.Intn(i), 0, 1+r.Intn(3))
			to, _ = room.Of(a.Target)
			a.Dims[0] = min(a.Dims[0], to.Dims[0])
			a.Offset = r.Intn(to.Dims[0] - a.Dims[0] + 1)
		}
		made(t, room, a, whole(0))
	}
	for a := range 12 {
		n, _ := room.Total(a)
		for i := range n {
			owner, at, _ := room.Where(a, i)
			for b := range 12 {
				m, _ := room.Total(b)
				for k := range m {
					room.Set(b, k, whole(1))
					room.Set(a, i, whole(2))
					x, _ := room.Get(b, k)
					other, there, _ := room.Where(b, k)
					equal(t, "whether it is changed", x.Text == "2", owner == other && at == there)
				}
			}
		}
	}
}

// P11.4: Pop undoes Push, but for the dimension.
func TestStacks(t *testing.T) {
	for _, shape := range []array.Array{plain(0, 0), plain(2, 2), plain(1, 3), {Dims: []int{3}, Fill: 2, Target: -1}} {
		room := array.NewRoom()
		a := counted(t, room, shape)
		before, _ := room.Contents(a)
		n, e := room.Push(a, symbol("X"), 3)
		equal(t, "Push", []any{n, e}, []any{shape.Fill, 0})
		contents(t, room, a, append(slices.Clone(before), symbol("X")))
		x, e := room.Pop(a)
		equal(t, "Pop", []any{x, e}, []any{symbol("X"), 0})
		contents(t, room, a, before)
		of, _ := room.Of(a)
		if shape.Fill == shape.Dims[0] {
			shape.Dims = []int{shape.Fill + 3}
		}
		equal(t, "Of", of, shape)
	}
	// a full vector that is displaced has elements of its own behind Push
	room := array.NewRoom()
	a := counted(t, room, plain(-1, 4))
	b := made(t, room, array.Array{Dims: []int{2}, Fill: 2, Adjustable: true, Target: a, Offset: 1}, api.Form{})
	_, e := room.Push(b, symbol("X"), 1)
	fails(t, "Push", e, api.OK)
	contents(t, room, a, wholes(0, 1, 2, 3))
	contents(t, room, b, append(wholes(1, 2), symbol("X")))
	// with room behind the fill pointer the element is changed for the target, too
	c := made(t, room, array.Array{Dims: []int{2}, Fill: 1, Adjustable: true, Target: a, Offset: 1}, api.Form{})
	_, e = room.Push(c, symbol("Y"), 1)
	fails(t, "Push", e, api.OK)
	contents(t, room, a, []api.Form{whole(0), whole(1), symbol("Y"), whole(3)})
}

// P11.5: Adjust to the same dimensions, and to greater ones and back.
func TestAdjusting(t *testing.T) {
	room := array.NewRoom()
	a := counted(t, room, plain(-1, 2, 6))
	b := made(t, room, displaced(a, 3, 2, 3), api.Form{})
	fails(t, "Adjust", room.Adjust(b, []int{2, 3}, -2, symbol("X")), api.OK)
	contents(t, room, b, wholes(3, 4, 5, 6, 7, 8))
	fails(t, "Set", room.Set(b, 0, symbol("X")), api.OK)
	contents(t, room, a, wholes(0, 1, 2, 3, 4, 5, 6, 7, 8, 9, 10, 11))
	for _, dims := range [][]int{{2, 7}, {5, 6}, {3, 9}} {
		before, _ := room.Contents(a)
		fails(t, "Adjust", room.Adjust(a, dims, -2, symbol("X")), api.OK)
		fails(t, "Adjust back", room.Adjust(a, []int{2, 6}, -1, symbol("Y")), api.OK)
		contents(t, room, a, before)
	}
	// what is displaced to an array shows the new elements
	c := made(t, room, displaced(a, 1, 3), api.Form{})
	fails(t, "Adjust", room.Adjust(a, []int{3, 2}, -2, symbol("X")), api.OK)
	contents(t, room, c, wholes(1, 6, 7))
	// a fill pointer is moved, or stays
	f := counted(t, room, plain(2, 4))
	fails(t, "Adjust", room.Adjust(f, []int{6}, 5, symbol("X")), api.OK)
	contents(t, room, f, append(wholes(0, 1, 2, 3), symbol("X")))
	fails(t, "Adjust", room.Adjust(f, []int{5}, -2, symbol("Y")), api.OK)
	n, _ := room.Length(f)
	equal(t, "Length", n, 5)
}

// P11.6: exclusive or clears, 12 copies, the complement of an operation has the complement of the result.
func TestBits(t *testing.T) {
	r := rand.New(rand.NewSource(116))
	anyBits := func(room *array.Room) int {
		a := made(t, room, bits(3, 4), whole(0))
		for i := range 12 {
			room.Set(a, i, whole(r.Intn(2)))
		}
		return a
	}
	for range 20 {
		room := array.NewRoom()
		a, b, c, d := anyBits(room), anyBits(room), anyBits(room), anyBits(room)
		before, _ := room.Contents(a)
		fails(t, "Boole 12", room.Boole(12, a, b, c), api.OK)
		contents(t, room, c, before)
		fails(t, "Boole 6", room.Boole(6, a, a, c), api.OK)
		contents(t, room, c, slices.Repeat(wholes(0), 12))
		for op := range 16 {
			fails(t, "Boole", room.Boole(op, a, b, c), api.OK)
			fails(t, "Boole", room.Boole(15-op, a, b, d), api.OK)
			x, _ := room.Contents(c)
			y, _ := room.Contents(d)
			for i := range x {
				if x[i].Text == y[i].Text {
					t.Errorf("Boole %d and its complement agree at %d", op, i)
				}
			}
		}
	}
}
