package types

import (
	"slices"
	"strconv"
	"strings"

	"commonform/api"
	"commonform/float"
	"commonform/forms"
	"commonform/number"
)

// field is what objects that are no conses are told apart by.
type field struct {
	atoms   []spec // types without parts
	members []api.Form
	line    []stretch
}

// newField returns the field of types and their parts.
func newField(specs ...spec) field {
	var f field
	for _, s := range specs {
		f.add(s)
	}
	values := []api.Form{whole(0)}
	for _, t := range f.atoms {
		for _, b := range [...]bound{t.low, t.high} {
			if b.some {
				values = append(values, exactly(b.value))
			}
		}
	}
	for _, x := range f.members {
		if sortOf(x)&reals != 0 {
			values = append(values, exactly(x))
		}
	}
	f.line = line(values)
	return f
}

// exactly returns the value of a real number.
func exactly(x api.Form) api.Form {
	value, _ := number.Rational(x)
	return value
}

// add adds the atoms of a type.
func (f *field) add(t spec) {
	if t.atomic() {
		f.atoms = append(f.atoms, t)
		f.members = append(f.members, t.members...)
	}
	for _, kid := range t.kids {
		f.add(kid)
	}
}

// samples returns objects of which one is of the same atoms as any object that is no cons.
func (f field) samples() []api.Form {
	kinds := [...]func() []api.Form{
		f.symbols,
		func() []api.Form { return f.onLine(stretch.integer) },
		func() []api.Form { return f.onLine(stretch.ratio) },
		func() []api.Form { return f.floats(float.Single) },
		func() []api.Form { return f.floats(float.Double) },
		f.complexes,
		f.characters,
		f.vectors,
		f.arrays,
	}
	samples := slices.Clone(f.members)
	for _, kind := range kinds {
		samples = append(samples, kind()...)
	}
	return samples
}

// other returns the first object with a number from 0 on that is no member.
func (f field) other(object func(n int) api.Form) api.Form {
	n := 0
	for slices.ContainsFunc(f.members, func(m api.Form) bool { return forms.Equal(m, object(n)) }) {
		n++
	}
	return object(n)
}

func (f field) symbols() []api.Form {
	keyword := f.other(func(n int) api.Form { return forms.Symbol("KEYWORD", "K"+strconv.Itoa(n)) })
	return []api.Form{
		forms.Nil(), forms.Symbol(lisp, "T"), keyword, forms.Symbol("", "X"), // a symbol without a package is no member
		forms.Symbol("%", "BUILTIN"), forms.Symbol("%", "TABLE"), forms.Symbol("%", "OTHER"),
	}
}

func (f field) complexes() []api.Form {
	return []api.Form{f.other(func(n int) api.Form {
		return api.Form{Kind: api.FormComplex, Kids: []api.Form{whole(n), whole(1)}}
	})}
}

func (f field) characters() []api.Form {
	return []api.Form{f.other(func(n int) api.Form { return api.Form{Kind: api.FormChar, Text: string(rune('a' + n))} })}
}

// onLine returns a number of each stretch that has one.
func (f field) onLine(find func(stretch) (api.Form, bool)) []api.Form {
	var l []api.Form
	for _, s := range f.line {
		if x, there := find(s); there {
			l = append(l, x)
		}
	}
	return l
}

func (f field) floats(format float.Format) []api.Form {
	l := f.onLine(func(s stretch) (api.Form, bool) { return s.floatOf(format) })
	minus, _ := float.Neg(format, 0)
	return append(l, floatForm(format, minus))
}

// sizes returns the sizes of a dimension that are told apart, and one that stands for all others.
func (f field) sizes(rank, dimension int) []int {
	var sizes []int
	for _, t := range f.atoms {
		if t.sized && len(t.dims) == rank && t.dims[dimension] != -1 {
			sizes = append(sizes, t.dims[dimension])
		}
	}
	other := 0
	for slices.Contains(sizes, other) {
		other++
	}
	sizes = append(sizes, other)
	slices.Sort(sizes)
	return slices.Compact(sizes)
}

func (f field) vectors() []api.Form {
	var l []api.Form
	for _, n := range f.sizes(1, 0) {
		l = append(l,
			api.Form{Kind: api.FormString, Text: strings.Repeat("a", n)},
			api.Form{Kind: api.FormBits, Text: strings.Repeat("0", n)},
			api.Form{Kind: api.FormVector, Kids: slices.Repeat([]api.Form{whole(0)}, n)})
	}
	return l
}

// arrays returns arrays of each rank that is told apart, and of one more.
func (f field) arrays() []api.Form {
	var l []api.Form
	for rank := range 6 {
		if rank != 1 {
			l = append(l, f.arraysOf(rank, nil)...)
		}
	}
	return l
}

// arraysOf returns the arrays of a rank with these first dimensions.
func (f field) arraysOf(rank int, dims []int) []api.Form {
	at := len(dims)
	if at == rank {
		return []api.Form{arrayOf(dims)}
	}
	var l []api.Form
	for _, n := range f.sizes(rank, at) {
		l = append(l, f.arraysOf(rank, append(slices.Clone(dims), n))...)
	}
	return l
}

func arrayOf(dims []int) api.Form {
	total := 1
	var words []string
	for _, d := range dims {
		total *= d
		words = append(words, strconv.Itoa(d))
	}
	return api.Form{Kind: api.FormArray, Text: strings.Join(words, " "), Kids: slices.Repeat([]api.Form{whole(0)}, total)}
}
