package array_test

import (
	"strings"
	"testing"

	"commonform/api"
	"commonform/array"
	"commonform/forms"
)

// P11.1: the chapter's examples.
func TestExamples(t *testing.T) {
	r := array.NewRoom()
	a := counted(t, r, plain(-1, 2, 3))
	n, e := r.Total(a)
	equal(t, "Total", []any{n, e}, []any{6, 0})
	n, e = r.Index(a, []int{1, 2})
	equal(t, "Index", []any{n, e}, []any{5, 0})
	s := made(t, r, plain(0, 4), whole(0))
	for i, x := range []string{"A", "B"} {
		n, e := r.Push(s, symbol(x), 0)
		equal(t, "Push", []any{n, e}, []any{i, 0})
	}
	contents(t, r, s, []api.Form{symbol("A"), symbol("B")})
	b := made(t, r, displaced(a, 2, 3), api.Form{})
	contents(t, r, b, wholes(2, 3, 4))
	fails(t, "Set", r.Set(b, 0, symbol("X")), api.OK)
	x, e := r.Get(a, 2)
	equal(t, "Get behind Set", []any{x, e}, []any{symbol("X"), 0})
	at, e := array.Subscripts([]int{2, 3}, 2)
	equal(t, "Subscripts", []any{at, e}, []any{[]int{0, 2}, 0})
	fails(t, "Adjust", r.Adjust(a, []int{3, 2}, -2, whole(9)), api.OK)
	contents(t, r, a, wholes(0, 1, 3, 4, 9, 9))
}

// P11.1: the errors of Make, each ahead of those behind it.
func TestMakeErrors(t *testing.T) {
	r := array.NewRoom()
	made(t, r, plain(-1, 4), whole(0))
	made(t, r, bits(4), whole(1))
	big := make([]int, 8)
	label := api.Form{Kind: api.FormLabel, Text: "1", Kids: []api.Form{symbol("A")}}
	wrong := api.Form{Kind: api.FormInt, Text: "01"}
	for _, c := range []struct {
		what    string
		a       array.Array
		initial api.Form
		want    api.Errno
	}{
		{"eight dimensions, one below 0", array.Array{Dims: append(big, -1), Fill: 3}, wrong, api.ErrSize},
		{"a dimension below 0", array.Array{Dims: []int{2000, 2000, -1}, Fill: 3}, wrong, api.ErrRange},
		{"a dimension above 2000", array.Array{Dims: []int{0, 2001}, Fill: 3}, wrong, api.ErrRange},
		{"more than 2000 elements", array.Array{Dims: []int{3, 667}, Fill: 3}, wrong, api.ErrLarge},
		{"as many as overflow", array.Array{Dims: []int{2000, 2000, 2000, 2000, 2000, 2000, 2000}, Fill: 3}, wrong, api.ErrLarge},
		{"2^64 elements", array.Array{Dims: []int{1024, 1024, 1024, 1024, 1024, 1024, 16}, Fill: 3}, wrong, api.ErrLarge},
		{"a fill pointer with two dimensions", array.Array{Dims: []int{2, 2}, Fill: -2, Target: -2}, wrong, array.ErrRank},
		{"a fill pointer without dimensions", array.Array{Target: -2}, wrong, array.ErrRank},
		{"a fill pointer below -1", array.Array{Dims: []int{2}, Fill: -2, Target: -2}, wrong, api.ErrRange},
		{"a fill pointer above the dimension", array.Array{Dims: []int{2}, Fill: 3, Target: -2}, wrong, api.ErrRange},
		{"a target below -1", array.Array{Dims: []int{2}, Fill: 2, Target: -2}, wrong, api.ErrArg},
		{"an offset without a target", array.Array{Dims: []int{2}, Fill: 2, Target: -1, Offset: 1}, wrong, api.ErrArg},
		{"no such target", array.Array{Dims: []int{2}, Fill: -1, Target: 2, Offset: -1}, wrong, api.ErrNone},
		{"bits in others", array.Array{Dims: []int{2}, Fill: -1, Bits: true, Offset: -1}, wrong, array.ErrBits},
		{"others in bits", array.Array{Dims: []int{2}, Fill: -1, Target: 1, Offset: -1}, wrong, array.ErrBits},
		{"an offset below 0", array.Array{Dims: []int{2}, Fill: -1, Offset: -1}, wrong, api.ErrRange},
		{"elements behind the target", array.Array{Dims: []int{2}, Fill: -1, Offset: 3}, wrong, api.ErrRange},
		{"an offset that overflows", array.Array{Dims: []int{2}, Fill: -1, Offset: 1<<63 - 1}, wrong, api.ErrRange},
		{"no right form", array.Array{Dims: []int{0}, Fill: -1, Target: -1}, wrong, api.ErrForm},
		{"a label", array.Array{Dims: []int{2}, Fill: -1, Target: -1}, forms.List([]api.Form{label}), api.ErrForm},
		{"no right form for bits", array.Array{Dims: []int{2}, Fill: -1, Target: -1, Bits: true}, wrong, api.ErrForm},
		{"no bit", array.Array{Dims: []int{0}, Fill: -1, Target: -1, Bits: true}, whole(2), array.ErrBits},
		{"a symbol as a bit", array.Array{Dims: []int{0}, Fill: -1, Target: -1, Bits: true}, symbol("1"), array.ErrBits},
		{"with a target no initial element", array.Array{Dims: []int{2}, Fill: 0, Target: 0, Offset: 2}, wrong, api.OK},
		{"no elements behind the last one", array.Array{Dims: []int{0}, Fill: -1, Target: 0, Offset: 4}, wrong, api.OK},
		{"no dimensions", array.Array{Fill: -1, Target: -1}, symbol("A"), api.OK},
		{"2000 elements", array.Array{Dims: []int{2, 1000, 1}, Fill: -1, Target: -1}, symbol("A"), api.OK},
		{"no element at all", array.Array{Dims: []int{2000, 2000, 0}, Fill: -1, Target: -1}, symbol("A"), api.OK},
	} {
		n, e := r.Make(c.a, c.initial)
		if e != c.want || e != api.OK && n != 0 {
			t.Errorf("%s: %d, %v; want %v", c.what, n, e, c.want)
		}
	}
}

// P11.1: a room has at most 100 arrays, and this is the last error.
func TestFullRoom(t *testing.T) {
	r := array.NewRoom()
	for i := range 100 {
		equal(t, "Make", made(t, r, plain(-1, 1), whole(i)), i)
	}
	_, e := r.Make(plain(-1, 1), whole(0))
	fails(t, "Make of one more", e, api.ErrFull)
	_, e = r.Make(displaced(0, 0, 1), whole(0))
	fails(t, "Make of one more that is displaced", e, api.ErrFull)
	_, e = r.Make(plain(-1, 1), api.Form{})
	fails(t, "Make of one more with a wrong element", e, api.ErrForm)
	x, _ := r.Get(99, 0)
	equal(t, "the last one", x, whole(99))
}

// P11.1: Of tells how an array lies, in memory of its own; Make keeps what it is given.
func TestOf(t *testing.T) {
	r := array.NewRoom()
	dims := []int{2, 3}
	initial := forms.List([]api.Form{symbol("A"), symbol("B")})
	a := made(t, r, plain(-1, dims...), initial)
	dims[0] = 9
	initial.Kids[0] = symbol("C")
	of, e := r.Of(a)
	equal(t, "Of", []any{of, e}, []any{plain(-1, 2, 3), 0})
	of.Dims[0] = 9
	x, _ := r.Get(a, 5)
	equal(t, "Get", x, forms.List([]api.Form{symbol("A"), symbol("B")}))
	x.Kids[0] = symbol("C")
	x, _ = r.Get(a, 5)
	equal(t, "Get behind a change of what it returned", x, forms.List([]api.Form{symbol("A"), symbol("B")}))
	l, _ := r.Contents(a)
	l[0].Kids[0] = symbol("C")
	equal(t, "another element of Contents", l[1], forms.List([]api.Form{symbol("A"), symbol("B")}))
	f, _ := r.Form(a)
	f.Kids[0].Kids[0] = symbol("C")
	equal(t, "another element of Form", f.Kids[1], forms.List([]api.Form{symbol("A"), symbol("B")}))
	y := forms.List([]api.Form{symbol("D")})
	fails(t, "Set", r.Set(a, 0, y), api.OK)
	y.Kids[0] = symbol("E")
	x, _ = r.Get(a, 0)
	equal(t, "what was Set", x, forms.List([]api.Form{symbol("D")}))
	of, _ = r.Of(a)
	equal(t, "Of again", of, plain(-1, 2, 3))
	b := made(t, r, array.Array{Dims: []int{2}, Fill: 1, Target: a, Offset: 3}, api.Form{})
	of, _ = r.Of(b)
	equal(t, "Of a displaced one", of, array.Array{Dims: []int{2}, Fill: 1, Target: a, Offset: 3})
}

// P11.1: what all methods return for no array, and for no room.
func TestNoArray(t *testing.T) {
	r := array.NewRoom()
	made(t, r, bits(1), whole(0))
	for _, c := range []struct {
		r    *array.Room
		a    int
		want api.Errno
	}{{r, -1, api.ErrNone}, {r, 1, api.ErrNone}, {nil, 0, api.ErrArg}, {nil, -1, api.ErrArg}} {
		wrong := api.Form{}
		of, e0 := c.r.Of(c.a)
		total, e1 := c.r.Total(c.a)
		length, e2 := c.r.Length(c.a)
		index, e3 := c.r.Index(c.a, nil)
		to, at, e4 := c.r.Where(c.a, 9)
		x, e5 := c.r.Get(c.a, 9)
		l, e6 := c.r.Contents(c.a)
		f, e7 := c.r.Form(c.a)
		n, e8 := c.r.Push(c.a, wrong, 0)
		y, e9 := c.r.Pop(c.a)
		equal(t, "the results", []any{of, total, length, index, to, at, x, l, f, n, y}, []any{array.Array{}, 0, 0, 0, 0, 0, api.Form{}, []api.Form{}, api.Form{}, 0, api.Form{}})
		others := []api.Errno{c.r.Set(c.a, 9, wrong), c.r.SetFill(c.a, 9), c.r.Adjust(c.a, []int{-1}, 9, wrong), c.r.Displace(c.a, []int{-1}, 9, 9), c.r.Boole(16, c.a, 0, 0), c.r.Boole(16, 0, c.a, 0), c.r.Boole(16, 0, 0, c.a)}
		for i, e := range append([]api.Errno{e0, e1, e2, e3, e4, e5, e6, e7, e8, e9}, others...) {
			if e != c.want {
				t.Errorf("method %d with the array %d: %v; want %v", i, c.a, e, c.want)
			}
		}
	}
	var none *array.Room
	n, e := none.Make(plain(-1, 1), whole(0))
	equal(t, "Make without a room", []any{n, e}, []any{0, 1})
}

// P11.1: indices and elements.
func TestElementErrors(t *testing.T) {
	r := array.NewRoom()
	a := counted(t, r, plain(-1, 2, 3))
	v := made(t, r, plain(2, 4), symbol("A"))
	b := made(t, r, bits(2), whole(1))
	n, e := r.Length(a)
	equal(t, "Length of two dimensions", []any{n, e}, []any{0, 130})
	n, e = r.Length(v)
	equal(t, "Length with a fill pointer", []any{n, e}, []any{2, 0})
	n, e = r.Length(b)
	equal(t, "Length", []any{n, e}, []any{2, 0})
	n, e = r.Total(v)
	equal(t, "Total with a fill pointer", []any{n, e}, []any{4, 0})
	for _, c := range []struct {
		at   []int
		n    int
		want api.Errno
	}{{[]int{0, 0}, 0, 0}, {[]int{0, 2}, 2, 0}, {[]int{1, 0}, 3, 0}, {[]int{-1}, 0, array.ErrRank}, {[]int{0, 0, 0}, 0, array.ErrRank}, {[]int{2, 0}, 0, api.ErrRange}, {[]int{0, 3}, 0, api.ErrRange}, {[]int{-1, 0}, 0, api.ErrRange}, {[]int{1, -1}, 0, api.ErrRange}} {
		n, e := r.Index(a, c.at)
		equal(t, "Index "+short(c.at), []any{n, e}, []any{c.n, c.want})
	}
	for _, i := range []int{-1, 6, 1 << 62} {
		to, at, e := r.Where(a, i)
		equal(t, "Where", []any{to, at, e}, []any{0, 0, api.ErrRange})
		_, e = r.Get(a, i)
		fails(t, "Get", e, api.ErrRange)
		fails(t, "Set", r.Set(a, i, api.Form{}), api.ErrRange)
	}
	x, e := r.Get(v, 3)
	equal(t, "Get behind the fill pointer", []any{x, e}, []any{symbol("A"), 0})
	fails(t, "Set of no right form", r.Set(v, 0, api.Form{}), api.ErrForm)
	fails(t, "Set of a label", r.Set(v, 0, api.Form{Kind: api.FormLabel, Text: "0", Kids: []api.Form{whole(1)}}), api.ErrForm)
	fails(t, "Set of no bit", r.Set(b, 0, whole(-1)), 132)
	fails(t, "Set of a bit", r.Set(b, 0, whole(0)), api.OK)
	contents(t, r, b, wholes(0, 1))
}

// P11.1: Subscripts.
func TestSubscripts(t *testing.T) {
	for _, c := range []struct {
		dims  []int
		index int
		want  []int
		code  api.Errno
	}{
		{nil, 0, nil, 0}, {nil, 1, nil, api.ErrRange}, {[]int{5}, 4, []int{4}, 0}, {[]int{2, 3, 4}, 23, []int{1, 2, 3}, 0}, {[]int{2, 3, 4}, 24, nil, api.ErrRange}, {[]int{2, 3}, -1, nil, api.ErrRange},
		{[]int{2, 0}, 0, nil, api.ErrRange}, {make([]int, 8), 0, nil, api.ErrSize}, {[]int{2, -1}, 0, nil, api.ErrRange}, {[]int{2000, 2}, -1, nil, api.ErrLarge}, {[]int{1, 1, 1, 1, 1, 1, 2}, 1, []int{0, 0, 0, 0, 0, 0, 1}, 0},
	} {
		at, e := array.Subscripts(c.dims, c.index)
		equal(t, "Subscripts "+short(c.dims), []any{at, e}, []any{c.want, c.code})
	}
}

// P11.1: the form of an array.
func TestForm(t *testing.T) {
	r := array.NewRoom()
	for _, c := range []struct {
		a       array.Array
		initial api.Form
		want    api.Form
	}{
		{plain(-1, 2), whole(7), api.Form{Kind: api.FormVector, Kids: wholes(7, 7)}},
		{plain(1, 2), whole(7), api.Form{Kind: api.FormVector, Kids: wholes(7)}},
		{plain(-1), whole(7), api.Form{Kind: api.FormArray, Kids: wholes(7)}},
		{plain(-1, 2, 0, 13), whole(7), api.Form{Kind: api.FormArray, Text: "2 0 13"}},
		{plain(-1, 1, 2), whole(7), api.Form{Kind: api.FormArray, Text: "1 2", Kids: wholes(7, 7)}},
		{bits(3), whole(1), api.Form{Kind: api.FormBits, Text: "111"}},
		{bits(0), whole(1), api.Form{Kind: api.FormBits}},
		{bits(), whole(1), api.Form{Kind: api.FormArray, Kids: wholes(1)}},
		{bits(2, 1), whole(1), api.Form{Kind: api.FormArray, Text: "2 1", Kids: wholes(1, 1)}},
		{bits(2000), whole(0), api.Form{Kind: api.FormBits, Text: strings.Repeat("0", 2000)}},
	} {
		f, e := r.Form(made(t, r, c.a, c.initial))
		equal(t, "Form of "+short(c.a), []any{f, e}, []any{c.want, 0})
		fails(t, "Check of it", forms.Check(f), api.OK)
	}
	for _, a := range []array.Array{plain(-1, 2000), plain(-1, 2, 1000)} {
		_, e := r.Form(made(t, r, a, whole(1)))
		fails(t, "Form of 2000 elements", e, api.ErrSize)
	}
	_, e := r.Form(made(t, r, plain(1999, 2000), whole(1)))
	fails(t, "Form of 1999 elements", e, api.OK)
	deep := whole(1)
	for range 99 {
		deep = api.Form{Kind: api.FormVector, Kids: []api.Form{deep}}
	}
	_, e = r.Form(made(t, r, plain(-1, 1), deep))
	fails(t, "Form of a deep element", e, api.ErrSize)
	_, e = r.Form(made(t, r, plain(-1, 1), deep.Kids[0]))
	fails(t, "Form of one less deep", e, api.OK)
}

// P11.1: the errors of Adjust and Displace, each ahead of those behind it.
func TestAdjustErrors(t *testing.T) {
	wrong := api.Form{}
	r := array.NewRoom()
	fixed := made(t, r, array.Array{Dims: []int{4}, Fill: -1, Target: -1}, whole(0))
	a := made(t, r, plain(-1, 4), whole(0))
	f := made(t, r, plain(3, 4), whole(0))
	b := made(t, r, bits(4), whole(0))
	made(t, r, displaced(a, 1, 3), wrong)
	for _, c := range []struct {
		what    string
		a       int
		dims    []int
		fill    int
		initial api.Form
		want    api.Errno
	}{
		{"not adjustable", fixed, []int{-1}, 9, wrong, api.ErrArg},
		{"dimensions", a, []int{-1, 1}, 9, wrong, api.ErrRange},
		{"too many dimensions", a, make([]int, 8), 9, wrong, api.ErrSize},
		{"too large", a, []int{50, 50}, 9, wrong, api.ErrLarge},
		{"another rank", a, []int{2, 2}, 9, wrong, array.ErrRank},
		{"no fill pointer", a, []int{2}, 9, wrong, array.ErrFill},
		{"no fill pointer, and none below -2", a, []int{2}, -3, wrong, array.ErrFill},
		{"a fill pointer that is taken away", f, []int{2}, -1, wrong, array.ErrFill},
		{"a fill pointer below -2", f, []int{2}, -3, wrong, api.ErrRange},
		{"a fill pointer above the dimension", f, []int{2}, 3, wrong, api.ErrRange},
		{"the old fill pointer above the dimension", f, []int{2}, -2, wrong, api.ErrRange},
		{"no right form", a, []int{2}, -2, wrong, api.ErrForm},
		{"no bit", b, []int{9}, -2, whole(2), array.ErrBits},
		{"too small for another one", a, []int{3}, -1, whole(0), api.ErrSize},
	} {
		before, _ := r.Of(c.a)
		old, _ := r.Contents(c.a)
		fails(t, "Adjust, "+c.what, r.Adjust(c.a, c.dims, c.fill, c.initial), c.want)
		after, _ := r.Of(c.a)
		equal(t, "Of behind an error, "+c.what, after, before)
		contents(t, r, c.a, old)
	}
	for _, c := range []struct {
		what           string
		a              int
		dims           []int
		target, offset int
		want           api.Errno
	}{
		{"not adjustable", fixed, []int{-1}, 99, -1, api.ErrArg},
		{"dimensions", a, []int{-1, 1}, 99, -1, api.ErrRange},
		{"another rank", a, []int{2, 2}, 99, -1, array.ErrRank},
		{"no target", a, []int{2}, 99, -1, api.ErrNone},
		{"no target as for Make", a, []int{2}, -1, 0, api.ErrNone},
		{"itself", a, []int{2}, a, -1, api.ErrOrder},
		{"one that is displaced to it", a, []int{2}, 4, -1, api.ErrOrder},
		{"bits", a, []int{2}, b, -1, array.ErrBits},
		{"others", b, []int{2}, a, -1, array.ErrBits},
		{"an offset below 0", f, []int{2}, a, -1, api.ErrRange},
		{"too short a target", f, []int{2}, a, 3, api.ErrRange},
		{"the fill pointer", f, []int{2}, a, 0, api.ErrRange},
		{"too small for another one", a, []int{3}, f, 0, api.ErrSize},
	} {
		before, _ := r.Of(c.a)
		old, _ := r.Contents(c.a)
		fails(t, "Displace, "+c.what, r.Displace(c.a, c.dims, c.target, c.offset), c.want)
		after, _ := r.Of(c.a)
		equal(t, "Of behind an error, "+c.what, after, before)
		contents(t, r, c.a, old)
	}
	fails(t, "Displace", r.Displace(f, []int{3}, a, 1), api.OK)
	of, _ := r.Of(f)
	equal(t, "Of behind Displace", of, array.Array{Dims: []int{3}, Fill: 3, Adjustable: true, Target: a, Offset: 1})
	fails(t, "a circle of three", r.Displace(a, []int{4}, 4, 0), api.ErrOrder)
}

// P11.1: fill pointers.
func TestFillErrors(t *testing.T) {
	r := array.NewRoom()
	a := made(t, r, plain(-1, 4), whole(0))
	f := made(t, r, plain(4, 4), whole(0))
	fixed := made(t, r, array.Array{Dims: []int{1}, Fill: 1, Target: -1}, whole(0))
	fails(t, "SetFill without one", r.SetFill(a, 9), array.ErrFill)
	fails(t, "SetFill below 0", r.SetFill(f, -1), api.ErrRange)
	fails(t, "SetFill above", r.SetFill(f, 5), api.ErrRange)
	fails(t, "SetFill", r.SetFill(f, 4), api.OK)
	for _, c := range []struct {
		what   string
		a      int
		x      api.Form
		extend int
		want   api.Errno
	}{
		{"without a fill pointer", a, api.Form{}, 1, array.ErrFill}, {"of no right form", f, api.Form{}, 0, api.ErrForm},
		{"that is not adjustable", fixed, whole(1), -1, api.ErrFull}, {"without an extension", f, whole(1), 0, api.ErrFull},
		{"with one below 0", f, whole(1), -1, api.ErrRange}, {"with a great one below 0", f, whole(1), -1 << 63, api.ErrRange},
		{"with one that is too great", f, whole(1), 1997, api.ErrRange}, {"with one that overflows", f, whole(1), 1<<63 - 1, api.ErrRange},
	} {
		n, e := r.Push(c.a, c.x, c.extend)
		if e != c.want || n != 0 {
			t.Errorf("Push %s: %d, %v; want %v", c.what, n, e, c.want)
		}
	}
	n, e := r.Push(f, whole(7), 1996)
	equal(t, "Push with the greatest extension", []any{n, e}, []any{4, 0})
	x, _ := r.Get(f, 1999)
	equal(t, "a new element behind the fill pointer", x, whole(7))
	fails(t, "SetFill", r.SetFill(f, 0), api.OK)
	_, e = r.Pop(f)
	fails(t, "Pop of none", e, 131)
	_, e = r.Pop(a)
	fails(t, "Pop without a fill pointer", e, array.ErrFill)
}

// P11.1: the errors of Boole, and that it goes from element to element where arrays overlap.
func TestBoole(t *testing.T) {
	r := array.NewRoom()
	b := made(t, r, bits(4), whole(1))
	other := made(t, r, bits(5), whole(1))
	square := made(t, r, bits(2, 2), whole(1))
	a := made(t, r, plain(-1, 4), whole(1))
	fails(t, "an operation below 0", r.Boole(-1, a, b, square), api.ErrArg)
	fails(t, "an operation above 15", r.Boole(16, a, b, square), api.ErrArg)
	fails(t, "no bits first", r.Boole(0, a, b, square), array.ErrBits)
	fails(t, "no bits second", r.Boole(0, b, a, square), array.ErrBits)
	fails(t, "no bits third", r.Boole(0, b, square, a), array.ErrBits)
	fails(t, "another length second", r.Boole(0, b, other, b), array.ErrRank)
	fails(t, "another length third", r.Boole(0, b, b, other), array.ErrRank)
	fails(t, "another rank", r.Boole(0, square, square, b), array.ErrRank)
	contents(t, r, b, wholes(1, 1, 1, 1))
	// x y of 0011 and 0101: the bit 2 x + y of the operation
	x, y, z := made(t, r, bits(4), whole(0)), made(t, r, bits(4), whole(0)), made(t, r, bits(4), whole(0))
	for _, i := range []int{2, 3} {
		r.Set(x, i, whole(1))
		r.Set(y, 2*i-3, whole(1))
	}
	for op := range 16 {
		fails(t, "Boole", r.Boole(op, x, y, z), api.OK)
		contents(t, r, z, wholes(op&1, op>>1&1, op>>2&1, op>>3&1))
	}
	// each element becomes the one ahead of it, which has been changed before
	long := made(t, r, bits(5), whole(0))
	r.Set(long, 0, whole(1))
	from := made(t, r, array.Array{Dims: []int{4}, Fill: -1, Target: long, Bits: true}, api.Form{})
	into := made(t, r, array.Array{Dims: []int{4}, Fill: 0, Target: long, Offset: 1, Bits: true}, api.Form{})
	fails(t, "Boole", r.Boole(12, from, b, into), api.OK)
	contents(t, r, long, wholes(1, 1, 1, 1, 1))
}
