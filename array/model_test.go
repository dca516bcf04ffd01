package array_test

import (
	"fmt"
	"math/rand"
	"slices"
	"testing"

	"commonform/api"
	"commonform/array"
	"commonform/forms"
)

// model is a room in the simplest way: an element is a cell behind a pointer, which all arrays that show it share.
type model struct{ arrays []modelArray }

type modelArray struct {
	array.Array
	own []*api.Form
}

// cells returns the elements of an array.
func (m *model) cells(a int) []*api.Form {
	x := m.arrays[a]
	if x.Target == -1 {
		return x.own
	}
	return m.cells(x.Target)[x.Offset : x.Offset+size(x.Dims)]
}

func size(dims []int) int {
	n := 1
	for _, d := range dims {
		n *= d
	}
	return n
}

// fits reports whether all displaced arrays have their elements.
func (m *model) fits() bool {
	for _, x := range m.arrays {
		if x.Target >= 0 && x.Offset+size(x.Dims) > size(m.arrays[x.Target].Dims) {
			return false
		}
	}
	return true
}

// replace gives an array another shape, if all fit then.
func (m *model) replace(a int, x modelArray) api.Errno {
	old := m.arrays[a]
	m.arrays[a] = x
	if !m.fits() {
		m.arrays[a] = old
		return api.ErrSize
	}
	return api.OK
}

func fresh(n int, x api.Form) []*api.Form {
	var l []*api.Form
	for range n {
		y := x
		l = append(l, &y)
	}
	return l
}

// adjusted returns the cells of an array with other dimensions (two of them at most).
func (m *model) adjusted(a int, dims []int, x api.Form) []*api.Form {
	l := fresh(size(dims), x)
	old := m.arrays[a].Dims
	cells := m.cells(a)
	for i, c := range cells {
		switch {
		case len(dims) == 1 && i < dims[0]:
			*l[i] = *c
		case len(dims) == 2 && i/old[1] < dims[0] && i%old[1] < dims[1]:
			*l[i/old[1]*dims[1]+i%old[1]] = *c
		case len(dims) == 0:
			*l[0] = *c
		}
	}
	return l
}

// reaches reports whether an array is displaced to another one, or is it.
func (m *model) reaches(a, other int) bool {
	for a != other && m.arrays[a].Target >= 0 {
		a = m.arrays[a].Target
	}
	return a == other
}

// rule is a condition of an error.
type rule struct {
	holds bool
	code  api.Errno
}

// firstOf returns the code of the first rule that holds.
func firstOf(rules ...rule) api.Errno {
	for _, x := range rules {
		if x.holds {
			return x.code
		}
	}
	return api.OK
}

// wrongElement returns the rules of an element (of which there are only right forms here).
func wrongElement(a modelArray, x api.Form) rule {
	return rule{a.Bits && x.Text != "0" && x.Text != "1", array.ErrBits}
}

func (m *model) adjust(a int, dims []int, fill int, x api.Form) api.Errno {
	c := m.arrays[a]
	rank := len(dims) == len(c.Dims)
	next := c.Fill
	if fill != -2 {
		next = fill
	}
	if e := firstOf(rule{!c.Adjustable, api.ErrArg}, rule{slices.Contains(dims, -1), api.ErrRange}, rule{!rank, array.ErrRank},
		rule{fill != -2 && fill != -1 && c.Fill == -1 || fill == -1 && c.Fill != -1, array.ErrFill},
		rule{fill < -2 || rank && len(dims) == 1 && next > dims[0], api.ErrRange}, wrongElement(c, x)); e != api.OK {
		return e
	}
	own := m.adjusted(a, dims, x)
	c.own, c.Fill, c.Dims, c.Target, c.Offset = own, next, dims, -1, 0
	return m.replace(a, c)
}

func (m *model) displace(a int, dims []int, target, offset int) api.Errno {
	c := m.arrays[a]
	if e := firstOf(rule{!c.Adjustable, api.ErrArg}, rule{slices.Contains(dims, -1), api.ErrRange}, rule{len(dims) != len(c.Dims), array.ErrRank}, rule{target < 0 || target >= len(m.arrays), api.ErrNone}); e != api.OK {
		return e
	}
	to := m.arrays[target]
	if e := firstOf(rule{m.reaches(target, a), api.ErrOrder}, rule{to.Bits != c.Bits, array.ErrBits}, rule{offset < 0 || offset+size(dims) > size(to.Dims), api.ErrRange}, rule{c.Fill != -1 && c.Fill > dims[0], api.ErrRange}); e != api.OK {
		return e
	}
	c.own, c.Dims, c.Target, c.Offset = nil, dims, target, offset
	return m.replace(a, c)
}

func (m *model) push(a int, x api.Form, extend int) (int, api.Errno) {
	c := m.arrays[a]
	if e := firstOf(rule{c.Fill == -1, array.ErrFill}, wrongElement(c, x)); e != api.OK {
		return 0, e
	}
	if c.Fill == c.Dims[0] {
		if e := firstOf(rule{!c.Adjustable || extend == 0, api.ErrFull}, rule{extend < 0, api.ErrRange}); e != api.OK {
			return 0, e
		}
		if e := m.adjust(a, []int{c.Dims[0] + extend}, -2, x); e != api.OK {
			return 0, e
		}
	}
	*m.cells(a)[c.Fill] = x
	m.arrays[a].Fill++
	return c.Fill, api.OK
}

func (m *model) make(a array.Array, x api.Form) (int, api.Errno) {
	rank := len(a.Dims) == 1
	e := firstOf(rule{slices.Contains(a.Dims, -1), api.ErrRange}, rule{a.Fill != -1 && !rank, array.ErrRank}, rule{a.Fill < -1 || rank && a.Fill > a.Dims[0], api.ErrRange},
		rule{a.Target < -1 || a.Target == -1 && a.Offset != 0, api.ErrArg}, rule{a.Target >= len(m.arrays), api.ErrNone})
	if e != api.OK {
		return 0, e
	}
	c := modelArray{Array: a}
	if a.Target == -1 {
		e = firstOf(wrongElement(c, x))
		c.own = fresh(size(a.Dims), x)
	} else {
		to := m.arrays[a.Target]
		e = firstOf(rule{to.Bits != a.Bits, array.ErrBits}, rule{a.Offset < 0 || a.Offset+size(a.Dims) > size(to.Dims), api.ErrRange})
	}
	if e = firstOf(rule{e != api.OK, e}, rule{len(m.arrays) == 100, api.ErrFull}); e != api.OK {
		return 0, e
	}
	m.arrays = append(m.arrays, c)
	return len(m.arrays) - 1, api.OK
}

// same checks all that can be seen of two rooms.
func same(t *testing.T, what string, r *array.Room, m *model) {
	t.Helper()
	owners := map[*api.Form][2]int{}
	for a, x := range m.arrays {
		for i, c := range x.own {
			owners[c] = [2]int{a, i}
		}
	}
	for a, x := range m.arrays {
		of, _ := r.Of(a)
		equal(t, what+": Of", of, x.Array)
		var want []api.Form
		for i, c := range m.cells(a) {
			to, at, e := r.Where(a, i)
			equal(t, what+": Where", []any{to, at, e}, []any{owners[c][0], owners[c][1], 0})
			y, e := r.Get(a, i)
			equal(t, what+": Get", []any{y, e}, []any{*c, 0})
			want = append(want, *c)
		}
		if x.Fill != -1 {
			want = want[:x.Fill]
		}
		contents(t, r, a, want)
		f, _ := r.Form(a)
		if f.Kind != api.FormBits && !slices.EqualFunc(f.Kids, want, forms.Equal) {
			t.Errorf("%s: Form(%d) = %s", what, a, short(f))
		}
	}
}

// P11.1, P11.3: any calls, against the model.
func TestModel(t *testing.T) {
	r := rand.New(rand.NewSource(111))
	for range 300 {
		room, m := array.NewRoom(), &model{}
		for range 60 {
			what := anyCall(t, r, room, m)
			same(t, what, room, m)
			if t.Failed() {
				t.Fatalf("behind %s", what)
			}
		}
	}
}

func anyDims(r *rand.Rand) []int {
	var dims []int
	for range [...]int{1, 1, 1, 2, 2, 0}[r.Intn(6)] {
		dims = append(dims, r.Intn(6))
	}
	if len(dims) > 0 && r.Intn(20) == 0 {
		dims[0] = -1
	}
	return dims
}

// anyCall does the same thing with both, and checks that the answers agree.
func anyCall(t *testing.T, r *rand.Rand, room *array.Room, m *model) string {
	n := len(m.arrays)
	a, b, c := 0, 0, 0
	if n > 0 {
		a, b, c = r.Intn(n), r.Intn(n), r.Intn(n)
	}
	dims, fill, x := anyDims(r), r.Intn(7)-3, whole(r.Intn(3))
	op := r.Intn(8)
	if n == 0 {
		op = 0
	}
	what, got, want := "", "", ""
	answer := func(n int, e api.Errno) string { return fmt.Sprint(n, e) }
	switch op {
	case 0:
		shape := array.Array{Dims: dims, Fill: -1, Adjustable: r.Intn(4) > 0, Target: -1, Bits: r.Intn(3) == 0}
		if r.Intn(2) == 0 {
			shape.Fill = fill
		}
		if r.Intn(2) == 0 {
			shape.Target, shape.Offset = r.Intn(n+2)-1, r.Intn(5)-1
		}
		what = "Make " + fmt.Sprint(shape)
		got, want = answer(room.Make(shape, x)), answer(m.make(shape, x))
	case 1:
		if r.Intn(2) == 0 {
			fill = -2
		}
		what = fmt.Sprint("Adjust ", a, dims, fill)
		got, want = answer(0, room.Adjust(a, dims, fill, x)), answer(0, m.adjust(a, dims, fill, x))
	case 2:
		what = fmt.Sprint("Displace ", a, dims, b, fill)
		got, want = answer(0, room.Displace(a, dims, b, fill)), answer(0, m.displace(a, dims, b, fill))
	case 3:
		what = fmt.Sprint("Push ", a, x, fill)
		got, want = answer(room.Push(a, x, fill)), answer(m.push(a, x, fill))
	case 4:
		what = fmt.Sprint("SetFill ", a, fill)
		e := firstOf(rule{m.arrays[a].Fill == -1, array.ErrFill}, rule{fill < 0 || m.arrays[a].Fill != -1 && fill > m.arrays[a].Dims[0], api.ErrRange})
		if e == api.OK {
			m.arrays[a].Fill = fill
		}
		got, want = answer(0, room.SetFill(a, fill)), answer(0, e)
	case 5:
		what = fmt.Sprint("Set ", a, fill)
		cells := m.cells(a)
		e := firstOf(rule{fill < 0 || fill >= len(cells), api.ErrRange}, wrongElement(m.arrays[a], x))
		if e == api.OK {
			*cells[fill] = x
		}
		got, want = answer(0, room.Set(a, fill, x)), answer(0, e)
	case 6:
		what = fmt.Sprint("Pop ", a)
		y, e := room.Pop(a)
		got, want = fmt.Sprint(y, e), fmt.Sprint(api.Form{}, array.ErrFill)
		if m.arrays[a].Fill > 0 {
			m.arrays[a].Fill--
			want = fmt.Sprint(*m.cells(a)[m.arrays[a].Fill], api.OK)
		}
	case 7:
		op := r.Intn(17)
		what = fmt.Sprint("Boole ", op, a, b, c)
		l := []modelArray{m.arrays[a], m.arrays[b], m.arrays[c]}
		e := firstOf(rule{op > 15, api.ErrArg}, rule{!l[0].Bits || !l[1].Bits || !l[2].Bits, array.ErrBits}, rule{!slices.Equal(l[0].Dims, l[1].Dims) || !slices.Equal(l[0].Dims, l[2].Dims), array.ErrRank})
		if e == api.OK {
			x, y, z := m.cells(a), m.cells(b), m.cells(c)
			for i := range z {
				place := 0
				if x[i].Text == "1" {
					place += 2
				}
				if y[i].Text == "1" {
					place++
				}
				*z[i] = whole(op >> place & 1)
			}
		}
		got, want = answer(0, room.Boole(op, a, b, c)), answer(0, e)
	}
	equal(t, what, got, want)
	return what
}
