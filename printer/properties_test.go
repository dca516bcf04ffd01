package printer_test

import (
	"math/rand"
	"strconv"
	"strings"
	"testing"

	"commonform/api"
	"commonform/forms"
	"commonform/printer"
	"commonform/reader"
)

// readBack returns what reader.One reads from a text with the options of the printer.
func readBack(o printer.Options, s string) (api.Form, api.Errno) {
	r, _, e := reader.One(reader.Options{Table: o.Table, Base: o.Base, Double: o.Double, Package: o.Package}, s)
	return r.Form, e
}

// P8.2: what is printed readably is read as the same form.
func TestThereAndBack(t *testing.T) {
	r := rand.New(rand.NewSource(81))
	read := 0
	for range 20000 {
		o, f := printer.Readably(anyOptions(r)), anyForm(r)
		s, e := printer.Print(o, f)
		if e != api.OK {
			continue
		}
		for _, end := range []string{"", "\n", " ;)", "#|(|#"} {
			if strings.HasPrefix(end, "#") {
				end = " " + end
			}
			got, e := readBack(o, s+end)
			if e == api.ErrSize && (len(s)+len(end) > api.MaxSource || has(f, api.FormArray, api.FormComplex)) {
				continue
			}
			same, g := forms.Same(got, f)
			if e != api.OK || !same || g != api.OK {
				t.Fatalf("Print(%v, %v) = %q, read as %v, %v", o, f, s, got, e)
			}
		}
		read++
	}
	if read < 5000 {
		t.Errorf("just %d forms", read)
	}
}

// nested returns lists within each other, of this depth.
func nested(depth int) api.Form {
	f := user("A")
	for range depth - 1 {
		f = list(f)
	}
	return f
}

// P8.2: the deepest and the longest forms.
func TestDeep(t *testing.T) {
	o := printer.Readably(printer.Standard("COMMON-LISP-USER"))
	for _, f := range []api.Form{nested(100), list(many(1998)...), vector(many(1999)...), user(long(1)), user(strings.Repeat("A", 3998)), str(long(3998))} {
		s, e := printer.Print(o, f)
		got, g := readBack(o, s)
		if e != api.OK || g != api.OK || !forms.Equal(got, f) {
			t.Errorf("Print(%s): %v, read with %v", short(f), e, g)
		}
	}
	// the text of an array is nested deeper than it is
	deep := array("1 1", user("A"))
	for range 98 {
		deep = list(deep)
	}
	s, e := printer.Print(o, deep)
	if _, g := readBack(o, s); e != api.OK || g != api.ErrSize {
		t.Errorf("an array in 98 lists: %v, read with %v", e, g)
	}
	// an abbreviation does not make it deeper
	quotes := user("A")
	for range 99 {
		quotes = call("QUOTE", quotes)
	}
	o.Abbrev = true
	s, e = printer.Print(o, quotes)
	if got, g := readBack(o, s); e != api.OK || g != api.OK || !forms.Equal(got, quotes) {
		t.Errorf("99 quotes: %q, %v, read with %v", s, e, g)
	}
}

// P8.3: sharing and labels.
func TestSharing(t *testing.T) {
	r := rand.New(rand.NewSource(82))
	for range 10000 {
		o, f := anyOptions(r), anyForm(r)
		s, e := printer.Print(o, f)
		other := renamed(f)
		if again, g := printer.Print(o, other); again != s || g != e {
			t.Fatalf("Print(%v, %v) = %q, %v; with other labels %q, %v", o, f, s, e, again, g)
		}
		normal, g := forms.Normal(f)
		if again, h := printer.Print(o, normal); g == api.OK && (again != s || h != e) {
			t.Fatalf("Print(%v, %v) = %q, %v; of the normal form %q, %v", o, f, s, e, again, h)
		}
		plain, g := forms.Plain(f)
		if g != api.OK || o.Circle {
			continue
		}
		if again, h := printer.Print(o, plain); again != s || h != e {
			t.Fatalf("Print(%v, %v) = %q, %v; of the plain form %q, %v", o, f, s, e, again, h)
		}
	}
}

// renamed returns the form with other labels.
func renamed(f api.Form) api.Form {
	if f.Kind == api.FormLabel || f.Kind == api.FormRef {
		n, _ := strconv.Atoi(f.Text)
		f.Text = strconv.Itoa((n*7 + 3) % 1000)
	}
	var kids []api.Form
	for _, kid := range f.Kids {
		kids = append(kids, renamed(kid))
	}
	f.Kids = kids
	return f
}

// P8.4: limits that nothing exceeds change nothing.
func TestLimits(t *testing.T) {
	r := rand.New(rand.NewSource(83))
	for range 10000 {
		o, f := anyOptions(r), anyForm(r)
		if plain, g := forms.Plain(f); g == api.OK {
			f = plain
		}
		// (arrays without elements have up to 2 rows, and arrays are written up to 3 levels deep)
		nodes, depth := forms.Size(f)
		o.Length, o.Level = nodes+2, 3*depth
		s, e := printer.Print(o, f)
		o.Length, o.Level = -1, -1
		if again, g := printer.Print(o, f); again != s || g != e {
			t.Fatalf("Print(%v, %v) = %q, %v; with limits %q, %v", o, f, again, g, s, e)
		}
		if f.Kind != api.FormCons {
			continue
		}
		o.Abbrev, o.Level = false, 0
		if again, g := printer.Print(o, f); g == api.OK && strings.TrimPrefix(again, "#0=") != "#" {
			t.Fatalf("Print(%v) in the level 0 = %q", f, again)
		}
		o.Level, o.Length = -1, 0
		if again, g := printer.Print(o, f); g == api.OK && strings.TrimPrefix(again, "#0=") != "(...)" {
			t.Fatalf("Print(%v) in the length 0 = %q", f, again)
		}
	}
}

// P8.5: without escapes strings and characters are what they are.
func TestBare(t *testing.T) {
	r := rand.New(rand.NewSource(84))
	for range 5000 {
		o := anyOptions(r)
		o.Escape = false
		f := (&maker{r: r}).atom()
		if f.Kind != api.FormString && f.Kind != api.FormChar {
			continue
		}
		if s, e := printer.Print(o, f); s != f.Text || e != api.OK {
			t.Fatalf("Print(%v, %v) = %q, %v", o, f, s, e)
		}
	}
}

// P8.6: a list has the texts of its elements.
func TestLists(t *testing.T) {
	r := rand.New(rand.NewSource(85))
	for range 10000 {
		o, f := anyOptions(r), anyForm(r)
		plain, e := forms.Plain(f)
		l, tail := forms.Spread(plain)
		o.Abbrev = false
		if e != api.OK || len(l) == 0 || o.Readable {
			continue
		}
		o.Circle = o.Circle && forms.Equal(plain, f)
		s, e := printer.Print(o, plain)
		if e != api.OK {
			continue
		}
		var words []string
		for _, x := range l {
			word, _ := printer.Print(o, x)
			words = append(words, word)
		}
		if !forms.IsNil(tail) {
			word, _ := printer.Print(o, tail)
			words = append(words, ".", word)
		}
		if want := "(" + strings.Join(words, " ") + ")"; s != want {
			t.Fatalf("Print(%v) = %q; want %q", plain, s, want)
		}
	}
}

// garbage returns trees of all kinds, which are right only now and then.
func garbage(r *rand.Rand, depth int) api.Form {
	texts := []string{"", "", "0", "1", "2 1", "0 0", "1/2", "a", "\xff", "00000000", "7f800000"}
	f := api.Form{Kind: r.Intn(16), Text: texts[r.Intn(len(texts))]}
	if f.Kind >= api.FormCons && depth > 0 {
		for range r.Intn(4) {
			kid := garbage(r, depth-1)
			f.Kids = append(f.Kids, kid)
		}
	}
	return f
}

// P1: no function panics, and with an error there is no result.
func TestGarbage(t *testing.T) {
	r := rand.New(rand.NewSource(86))
	for range 30000 {
		o, f := anyOptions(r), garbage(r, 4)
		if r.Intn(4) == 0 {
			o.Base, o.Length, o.Level, o.Table.Case = r.Intn(40), r.Intn(5)-2, r.Intn(5)-2, r.Intn(6)-1
		}
		o.Readable, o.Array = r.Intn(2) == 0, r.Intn(2) == 0
		want := forms.Check(f)
		if e := printer.Check(o); e != api.OK {
			want = e
		}
		s, e := printer.Print(o, f)
		if want != api.OK && e != want || e != api.OK && s != "" {
			t.Fatalf("Print(%v, %v) = %q, %v; want %v", o, f, s, e, want)
		}
		printer.Symbol(o, f)
		printer.String(o, f.Text)
		printer.Character(o, rune(r.Intn(300)-20))
		printer.Lines(o, f.Kids)
		printer.Text(f, o.Escape)
	}
}
