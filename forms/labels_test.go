package forms_test

import (
	"testing"

	"commonform/api"
	"commonform/forms"
)

// P1.1, P1.4: forms with as few labels as possible.
func TestNormal(t *testing.T) {
	a, vec, pair := sym("A"), vector(), cons(sym("A"), sym("B"))
	complex := node(api.FormComplex, "", integer("1"), integer("2"))
	for _, c := range []struct{ f, want api.Form }{
		{label("5", cons(a, ref("5"))), label("0", cons(a, ref("0")))}, {cons(a, label("1", list(sym("B")))), list(a, sym("B"))}, {label("7", vec), vec}, {vector(label("3", vec), label("7", vec), ref("7")), vector(vec, label("0", vec), ref("0"))},
		{vector(label("0", integer("1")), ref("0")), vector(integer("1"), integer("1"))}, {vector(label("0", a), ref("0")), vector(a, a)}, {vector(label("0", leaf(api.FormChar, "a")), ref("0"), ref("0")), vector(leaf(api.FormChar, "a"), leaf(api.FormChar, "a"), leaf(api.FormChar, "a"))}, {vector(label("0", complex), ref("0")), vector(complex, complex)}, {vector(label("9", str("")), ref("9")), vector(label("0", str("")), ref("0"))}, {vector(label("9", leaf(api.FormBits, "0")), ref("9")), vector(label("0", leaf(api.FormBits, "0")), ref("0"))},
		// labels that are left are numbered as the walk comes to them
		{vector(label("5", vector(label("2", vec))), ref("2"), ref("5")), vector(label("0", vector(label("1", vec))), ref("1"), ref("0"))},
		// a label that is used in the tail stays, also where it stands in a tail itself
		{vector(cons(a, label("4", pair)), ref("4")), vector(cons(a, label("0", pair)), ref("0"))}, {vector(label("4", pair), cons(a, ref("4"))), vector(label("0", pair), cons(a, ref("0")))}, {cons(a, label("1", cons(a, label("2", pair)))), cons(a, a, a, sym("B"))}, {cons(a, label("1", vec)), cons(a, vec)}, {cons(a, label("1", cons(a, label("2", cons(a, ref("2")))))), cons(a, a, label("0", cons(a, ref("0"))))}, {cons(label("1", a), ref("1")), cons(a, a)},
	} {
		x, e := forms.Normal(c.f)
		if e != api.OK {
			t.Errorf("Normal(%v): %v", c.f, e)
		}
		equal(t, "Normal", x, c.want)
	}
}

// P1.4: the laws of Normal.
func TestNormalLaws(t *testing.T) {
	for _, f := range random(t, 11, 800) {
		x, e := forms.Normal(f)
		if e != api.OK || forms.Check(x) != api.OK {
			t.Fatalf("Normal(%v) = %v, %v", f, x, e)
		}
		again, _ := forms.Normal(x)
		equal(t, "Normal of Normal", again, x)
		other, _ := forms.Normal(renamed(f))
		equal(t, "Normal of renamed labels", other, x)
		if labels(x) > labels(f) {
			t.Errorf("Normal(%v) has more labels", f)
		}
		if labels(f) == 0 {
			equal(t, "Normal without labels", x, f)
		}
	}
}

// P1.1: the normal form may be larger than the form.
func TestNormalSize(t *testing.T) {
	complex := node(api.FormComplex, "", integer("1"), integer("2"))
	shared := func(refs int) api.Form {
		return vector(append([]api.Form{label("0", complex)}, many(refs, ref("0"))...)...)
	}
	// a vector, and three nodes for each number
	if x, e := forms.Normal(shared(665)); e != api.OK || len(x.Kids) != 666 {
		t.Errorf("Normal with 1999 nodes: %v", e)
	}
	if x, e := forms.Normal(shared(666)); e != api.ErrSize || !empty(x) {
		t.Errorf("Normal with 2002 nodes: %v", e)
	}
	if same, e := forms.Same(vector(), shared(666)); same || e != api.ErrSize {
		t.Errorf("Same with 2002 nodes: %v, %v", same, e)
	}
	deep := func(depth int) api.Form {
		f := ref("0")
		for range depth - 2 {
			f = vector(f)
		}
		return vector(label("0", complex), f)
	}
	if _, e := forms.Normal(deep(api.MaxDepth - 1)); e != api.OK {
		t.Errorf("Normal with the greatest depth: %v", e)
	}
	if x, e := forms.Normal(deep(api.MaxDepth)); e != api.ErrSize || !empty(x) {
		t.Errorf("Normal with a greater depth: %v", e)
	}
	// many labels, of which few are left
	var kids []api.Form
	for i := range 990 {
		kids = append(kids, label(number(i), str("")))
	}
	kids = append(kids, label("999", str("")), ref("999"))
	if x, e := forms.Normal(vector(kids...)); e != api.OK || labels(x) != 1 {
		t.Errorf("Normal of 991 labels: %v", e)
	}
}

// P1.5: the same object.
func TestSame(t *testing.T) {
	a, one := list(sym("A")), integer("1")
	for _, c := range []struct {
		x, y api.Form
		want bool
	}{
		{list(label("1", a), ref("1")), list(a, a), false}, {list(label("1", sym("A")), ref("1")), list(sym("A"), sym("A")), true}, {list(label("1", one), ref("1")), list(one, one), true}, {list(label("1", leaf(api.FormChar, "a")), ref("1")), list(leaf(api.FormChar, "a"), leaf(api.FormChar, "a")), true}, {list(label("1", str("")), ref("1")), list(str(""), str("")), false}, {list(label("1", a), ref("1")), list(label("8", a), ref("8")), true}, {label("1", cons(one, ref("1"))), label("2", cons(one, one, ref("2"))), false}, {one, integer("2"), false}, {vector(), forms.Nil(), false},
	} {
		same, e := forms.Same(c.x, c.y)
		turned, g := forms.Same(c.y, c.x)
		if same != c.want || turned != c.want || e != api.OK || g != api.OK {
			t.Errorf("Same(%v, %v) = %v, %v", c.x, c.y, same, turned)
		}
	}
	l := random(t, 12, 80)
	for i, x := range l {
		if same, e := forms.Same(x, renamed(x)); !same || e != api.OK {
			t.Errorf("%v is not the same with other labels: %v", x, e)
		}
		if x.Kind != api.FormLabel && x.Kind != api.FormRef && labels(x) < 900 {
			if same, e := forms.Same(vector(x), vector(label("0", x))); !same || e != api.OK {
				t.Errorf("%v is not the same with a label: %v", x, e)
			}
		}
		for _, y := range l[:i] {
			same, _ := forms.Same(x, y)
			m, _ := forms.Normal(x)
			n, _ := forms.Normal(y)
			if same != forms.Equal(m, n) {
				t.Errorf("Same(%v, %v) = %v", x, y, same)
			}
			for _, z := range l[:5] {
				second, _ := forms.Same(y, z)
				third, _ := forms.Same(x, z)
				if same && second && !third {
					t.Errorf("Same of %v, %v and %v", x, y, z)
				}
			}
		}
	}
}

// P1.6: forms without labels.
func TestPlain(t *testing.T) {
	a, vec := sym("A"), vector()
	for _, c := range []struct {
		f, want api.Form
		code    api.Errno
	}{
		{list(label("1", list(a)), ref("1")), list(list(a), list(a)), api.OK}, {label("5", cons(a, ref("5"))), api.Form{}, forms.ErrCircle}, {vector(label("1", vector(label("2", vec), ref("2"))), ref("1"), ref("2")), vector(vector(vec, vec), vector(vec, vec), vec), api.OK}, {label("0", vec), vec, api.OK}, {cons(a, label("1", list(a))), list(a, a), api.OK}, {vector(label("1", list(a)), cons(a, ref("1"))), vector(list(a), list(a, a)), api.OK}, {vector(label("1", list(a)), label("2", cons(a, ref("1"))), cons(a, ref("2"))), vector(list(a), list(a, a), list(a, a, a)), api.OK},
		{vector(label("1", vector(label("2", vector(ref("1")))))), api.Form{}, forms.ErrCircle}, {vector(label("1", vec), label("2", vector(ref("1"))), ref("2")), vector(vec, vector(vec), vector(vec)), api.OK},
	} {
		x, e := forms.Plain(c.f)
		if e != c.code {
			t.Errorf("Plain(%v): %v; want %v", c.f, e, c.code)
		}
		equal(t, "Plain", x, c.want)
	}
	for _, f := range random(t, 13, 500) {
		x, e := forms.Plain(f)
		n, _ := forms.Normal(f)
		y, g := forms.Plain(n)
		if e != g || e == api.OK && (forms.Check(x) != api.OK || labels(x) > 0) || e != api.OK && e != forms.ErrCircle {
			t.Errorf("Plain(%v): %v, and of Normal %v", f, e, g)
		}
		equal(t, "Plain of Normal", y, x)
		if e == api.OK {
			again, _ := forms.Plain(x)
			equal(t, "Plain of Plain", again, x)
		}
	}
}

// P1.1: the tree without labels may be too large; a circle comes first.
func TestPlainSize(t *testing.T) {
	// each label stands for twice the one ahead of it
	doubled := func(n int) []api.Form {
		kids := []api.Form{label("0", vector())}
		for i := range n {
			kids = append(kids, label(number(i+1), vector(ref(number(i)), ref(number(i)))))
		}
		return kids
	}
	if x, e := forms.Plain(vector(doubled(8)...)); e != api.OK || len(x.Kids) != 9 {
		t.Errorf("Plain with 1014 nodes: %v", e)
	}
	if x, e := forms.Plain(vector(doubled(90)...)); e != api.ErrSize || !empty(x) {
		t.Errorf("Plain with far too many nodes: %v", e)
	}
	if x, e := forms.Plain(vector(append(doubled(90), label("900", vector(ref("900"))))...)); e != forms.ErrCircle || !empty(x) {
		t.Errorf("Plain with far too many nodes and a circle: %v", e)
	}
	var chain []api.Form
	inner := vector()
	for i := range 60 {
		chain = append(chain, label(number(i), inner))
		inner = vector(ref(number(i)))
	}
	if _, e := forms.Plain(vector(append(chain, nested(api.MaxDepth-1))...)); e != api.OK {
		t.Errorf("Plain with the greatest depth: %v", e)
	}
	long := many(999, integer("1"))
	if x, e := forms.Plain(vector(label("1", vector(long[:998]...)), ref("1"))); e != api.OK || len(x.Kids) != 2 {
		t.Errorf("Plain with 1999 nodes: %v", e)
	}
	if x, e := forms.Plain(vector(label("1", vector(long[:998]...)), ref("1"), integer("1"))); e != api.OK || len(x.Kids) != 3 {
		t.Errorf("Plain with 2000 nodes: %v", e)
	}
	if x, e := forms.Plain(vector(label("1", vector(long...)), ref("1"))); e != api.ErrSize || !empty(x) {
		t.Errorf("Plain with 2001 nodes: %v", e)
	}
	// the node of a tail that goes on is none of the tree
	if x, e := forms.Plain(vector(label("1", list(long[:996]...)), cons(integer("1"), ref("1")))); e != api.OK || len(x.Kids) != 2 {
		t.Errorf("Plain with a tail: %v", e)
	}
	deep := vector(label("1", nested(60)), nestedAround(39, ref("1")))
	if _, e := forms.Plain(deep); e != api.OK {
		t.Errorf("Plain of the depth 100: %v", e)
	}
	deep = vector(label("1", nested(60)), nestedAround(40, ref("1")))
	if x, e := forms.Plain(deep); e != api.ErrSize || !empty(x) {
		t.Errorf("Plain of the depth 101: %v", e)
	}
}

// nestedAround returns a form within so many vectors.
func nestedAround(depth int, f api.Form) api.Form {
	for range depth {
		f = vector(f)
	}
	return f
}
