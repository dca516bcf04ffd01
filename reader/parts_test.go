package reader_test

import (
	"math"
	"math/rand"
	"strconv"
	"strings"
	"testing"

	"commonform/api"
	"commonform/forms"
	"commonform/reader"
)

// P7.1: names of characters.
func TestCharacter(t *testing.T) {
	for name, want := range map[string]rune{"Null": 0, "Backspace": 8, "Tab": 9, "Newline": 10, "Linefeed": 10, "Page": 12, "Return": 13, "Space": 32, "Rubout": 127, "U0041": 'A', "U000041": 'A', "U00041": 'A', "U10FFFF": 0x10ffff, "U00E9": 'é', "UD7FF": 0xd7ff, "UE000": 0xe000, "U0000": 0, "UAbCd": 0xabcd} {
		for _, s := range []string{name, strings.ToLower(name), strings.ToUpper(name)} {
			if c, ok := reader.Character(s); c != want || !ok {
				t.Errorf("Character(%q) = %q, %v; want %q", s, c, ok, want)
			}
		}
	}
	for _, s := range []string{"", "a", " ", "Spac", "Spaces", "U", "U041", "U0000041", "UD800", "UDFFF", "UdC00", "U110000", "UFFFFFF", "U004G", "U+0041", "U-041", "0041", "X0041", "U 041", "U0041 ", "U_041", "bac\u212aspace", "\xff", "u\xff000", "Line feed"} {
		if c, ok := reader.Character(s); c != 0 || ok {
			t.Errorf("Character(%q) = %q, %v", s, c, ok)
		}
	}
}

// P7.1: expressions about features.
func TestFeature(t *testing.T) {
	features := []string{"A", "B", ""}
	is := func(name string, l ...api.Form) api.Form { return list(append([]api.Form{key(name)}, l...)...) }
	a, b, x, y := key("A"), key("B"), key("X"), key("Y")
	for _, c := range []struct {
		f    api.Form
		want bool
	}{
		{a, true}, {b, true}, {x, false}, {key("a"), false}, {key(""), true}, {is("NOT", a), false}, {is("NOT", x), true}, {is("NOT", is("NOT", a)), true}, {is("AND"), true}, {is("OR"), false}, {is("AND", a), true}, {is("AND", a, b), true}, {is("AND", a, x), false}, {is("AND", x, a), false}, {is("OR", a), true}, {is("OR", x, y), false}, {is("OR", x, a), true}, {is("OR", a, x), true}, {is("AND", is("OR", x, b), is("NOT", y)), true}, {key("NOT"), false}, {key("AND"), false},
	} {
		if got, e := reader.Feature(c.f, features); got != c.want || e != api.OK {
			t.Errorf("Feature(%v) = %v, %v", c.f, got, e)
		}
	}
	withKids := key("A")
	withKids.Kids = []api.Form{a}
	for _, f := range []api.Form{
		{}, sym("A"), forms.Symbol("", "A"), lisp("A"), forms.Nil(), integer("1"), str("A"), withKids, vector(a), label("1", a), ref("1"), is("NOT"), is("NOT", a, b), is("XOR", a), list(sym("NOT"), a), list(lisp("AND"), a), is("and", a), cons(key("AND"), a), cons(key("OR"), a, b), list(list(key("AND")), a), node(api.FormCons, ""), node(api.FormCons, "", a),
		// wherever it is: all elements are looked at
		is("OR", a, sym("A")), is("AND", x, integer("1")), is("NOT", is("NOT", forms.Nil())), is("OR", a, is("AND", x, is("NOT"))),
	} {
		if got, e := reader.Feature(f, features); got || e != api.ErrForm {
			t.Errorf("Feature(%v) = %v, %v", f, got, e)
		}
	}
	if got, e := reader.Feature(a, nil); got || e != api.OK {
		t.Errorf("Feature without features = %v, %v", got, e)
	}
}

// P7.1: arrays, and the errors of their contents.
func TestArray(t *testing.T) {
	a, b, one := sym("A"), sym("B"), integer("1")
	for _, c := range []struct {
		rank     int
		contents api.Form
		want     api.Form
	}{
		{0, a, node(api.FormArray, "", a)}, {0, list(a), node(api.FormArray, "", list(a))}, {0, label("1", list(ref("1"))), node(api.FormArray, "", label("1", list(ref("1"))))}, {0, ref("1"), node(api.FormArray, "", ref("1"))},
		{1, forms.Nil(), vector()}, {1, list(a, b), vector(a, b)}, {1, vector(a, b), vector(a, b)}, {1, str("aé"), vector(char("a"), char("é"))}, {1, bits("10"), vector(one, integer("0"))}, {1, str(""), vector()}, {1, vector(), vector()}, {1, list(label("3", a), ref("5")), vector(label("3", a), ref("5"))}, {1, list(label("3", a), label("3", a)), vector(label("3", a), label("3", a))},
		{2, list(list(a, b)), node(api.FormArray, "1 2", a, b)}, {2, forms.Nil(), node(api.FormArray, "0 0")}, {2, list(str("ab"), vector(a, b), list(a, b), bits("11")), node(api.FormArray, "4 2", char("a"), char("b"), a, b, a, b, one, one)}, {2, list(forms.Nil(), str("")), node(api.FormArray, "2 0")}, {3, list(forms.Nil(), vector()), node(api.FormArray, "2 0 0")}, {3, list(list(list(a, b), list(b, a))), node(api.FormArray, "1 2 2", a, b, b, a)}, {7, forms.Nil(), node(api.FormArray, "0 0 0 0 0 0 0")}, {7, list(list(list(list(list(list(list(a))))))), node(api.FormArray, "1 1 1 1 1 1 1", a)}, {2, vector(str("a")), node(api.FormArray, "1 1", char("a"))},
		{1, str(strings.Repeat("x", 2000)), vector(repeated(2000, char("x"))...)},
	} {
		if got, e := reader.Array(c.rank, c.contents); !forms.Equal(got, c.want) || e != api.OK {
			t.Errorf("Array(%d, %s) = %s, %v", c.rank, short(c.contents), short(got), e)
		}
	}
	deep := forms.Nil()
	for range 101 {
		deep = vector(deep)
	}
	long := str(strings.Repeat("x", 2001))
	for _, c := range []struct {
		rank     int
		contents api.Form
		want     api.Errno
	}{
		{-1, deep, api.ErrSize}, {1, vector(repeated(2000, a)...), api.ErrSize}, {9, api.Form{}, api.ErrForm}, {0, vector(str("\xff")), api.ErrForm}, {0, label("1", label("1", integer("01"))), api.ErrForm},
		{-1, a, api.ErrArg}, {8, list(a), api.ErrArg}, {math.MinInt, forms.Nil(), api.ErrArg}, {8, forms.Nil(), api.ErrArg}, {math.MaxInt, long, api.ErrArg},
		{1, a, reader.ErrShape}, {1, one, reader.ErrShape}, {1, cons(a, b), reader.ErrShape}, {1, char("a"), reader.ErrShape}, {1, label("1", list(a)), reader.ErrShape}, {1, ref("1"), reader.ErrShape}, {1, node(api.FormArray, "1 1", a), reader.ErrShape}, {2, list(a), reader.ErrShape}, {2, list(list(a), list(a, b)), reader.ErrShape}, {2, list(list(a), forms.Nil()), reader.ErrShape}, {2, list(forms.Nil(), list(a)), reader.ErrShape}, {3, list(list(forms.Nil()), forms.Nil()), reader.ErrShape}, {3, list(str("a")), reader.ErrShape}, {2, list(list(a), a), reader.ErrShape}, {2, list(label("1", list(a))), reader.ErrShape}, {2, list(long, str("x")), reader.ErrShape},
		{1, long, api.ErrSize}, {1, bits(strings.Repeat("0", 2001)), api.ErrSize}, {2, list(long), api.ErrSize}, {2, list(str(strings.Repeat("x", 1001)), str(strings.Repeat("x", 1001))), api.ErrSize}, {3, list(list(str(strings.Repeat("x", 1000)), str(strings.Repeat("x", 1000))), list(str(strings.Repeat("x", 1000)), str(strings.Repeat("x", 1000)))), api.ErrSize},
	} {
		if got, e := reader.Array(c.rank, c.contents); got.Kind != 0 || e != c.want {
			t.Errorf("Array(%d, %s) = %s, %v; want %v", c.rank, short(c.contents), short(got), e, c.want)
		}
	}
	if got, e := reader.Array(2, list(str(strings.Repeat("x", 1000)), str(strings.Repeat("x", 1000)))); len(got.Kids) != 2000 || got.Text != "2 1000" || e != api.OK {
		t.Errorf("the largest array: %s, %v", short(got), e)
	}
}

func repeated(n int, f api.Form) []api.Form {
	var l []api.Form
	for range n {
		l = append(l, f)
	}
	return l
}

// contents returns the contents of an array with these dimensions, of random kinds.
func contents(r *rand.Rand, dimensions []int, next *int) api.Form {
	if len(dimensions) == 0 {
		*next++
		return integer(strconv.Itoa(*next))
	}
	var l []api.Form
	for range dimensions[0] {
		part := contents(r, dimensions[1:], next)
		l = append(l, part)
	}
	if r.Intn(2) == 0 {
		return vector(l...)
	}
	return list(l...)
}

// P7.7: there are as many elements as the product of the dimensions, in their order.
func TestArrayElements(t *testing.T) {
	r := rand.New(rand.NewSource(76))
	for range 2000 {
		var dimensions []int
		product, text := 1, ""
		for range 2 + r.Intn(4) {
			n := r.Intn(4)
			if product == 0 {
				n = 0
			}
			dimensions = append(dimensions, n)
			product *= n
			text += " " + strconv.Itoa(n)
		}
		next := 0
		c := contents(r, dimensions, &next)
		f, e := reader.Array(len(dimensions), c)
		if e != api.OK || f.Text != text[1:] || len(f.Kids) != product || forms.Check(f) != api.OK {
			t.Fatalf("Array(%d, %v) = %v, %v", len(dimensions), c, f, e)
		}
		for i, kid := range f.Kids {
			if kid.Text != strconv.Itoa(i+1) {
				t.Fatalf("Array(%d, %v) = %v", len(dimensions), c, f)
			}
		}
		if got, _ := forms.Dimensions(f); len(got) != len(dimensions) {
			t.Fatalf("%v has the dimensions %v", f, got)
		}
	}
}
