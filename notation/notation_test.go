package notation_test

import (
	"slices"
	"strconv"
	"strings"
	"testing"

	"commonform/api"
	"commonform/forms"
	"commonform/notation"
)

// record is a page that keeps what it was told, in words.
type record struct {
	words []string
	whole bool
}

func (p *record) add(words ...string)            { p.words = append(p.words, strings.Join(words, ":")) }
func (p *record) Atom(f api.Form) string         { return f.Text }
func (p *record) Whole(api.Form) bool            { return p.whole }
func (p *record) Text(s string)                  { p.add("text", s) }
func (p *record) Open(prefix string, _ api.Form) { p.add("open", prefix) }
func (p *record) Gap(i int)                      { p.add("gap", strconv.Itoa(i)) }
func (p *record) Close()                         { p.add("close") }

func written(f api.Form, limits notation.Limits, whole bool) []string {
	p := &record{whole: whole}
	notation.Write(p, limits, f)
	return p.words
}

func none() notation.Limits { return notation.Limits{Length: -1, Level: -1, Abbrev: true} }

// P8.1, P9.1: the parts of a text, in their order.
func TestWrite(t *testing.T) {
	sym := func(name string) api.Form { return forms.Symbol("P", name) }
	a, b := sym("A"), sym("B")
	square := api.Form{Kind: api.FormArray, Text: "2 1", Kids: []api.Form{a, b}}
	short, flat := none(), none()
	short.Length, flat.Level = 1, 0
	for i, c := range []struct {
		f      api.Form
		limits notation.Limits
		whole  bool
		want   []string
	}{
		{a, none(), true, []string{"text:A"}},
		{forms.List([]api.Form{a, b}), none(), true, []string{"open:(", "text:A", "gap:0", "text:B", "close"}},
		{forms.Dotted([]api.Form{a, b}, a), none(), true, []string{"open:(", "text:A", "gap:0", "text:B", "gap:1", "text:. ", "text:A", "close"}},
		{forms.Dotted([]api.Form{a, b}, a), short, true, []string{"open:(", "text:A", "gap:0", "text:...", "close"}},
		{forms.List([]api.Form{a, b}), flat, true, []string{"text:#"}},
		{forms.Call("QUOTE", []api.Form{a}), none(), true, []string{"text:'", "text:A"}},
		{square, none(), true, []string{"open:#2A(", "open:(", "text:A", "close", "gap:0", "open:(", "text:B", "close", "close"}},
		{square, flat, true, []string{"text:#2A#"}},
		{square, none(), false, []string{"text:#<ARRAY>"}},
		{api.Form{Kind: api.FormLabel, Text: "3", Kids: []api.Form{forms.Dotted([]api.Form{a}, api.Form{Kind: api.FormRef, Text: "3"})}}, none(), true, []string{"text:#3=", "open:(", "text:A", "gap:0", "text:. ", "text:#3#", "close"}},
	} {
		if got := written(c.f, c.limits, c.whole); !slices.Equal(got, c.want) {
			t.Errorf("%d: %q; want %q", i, got, c.want)
		}
	}
}

// Dimensions are read whatever stands in the array.
func TestDimensions(t *testing.T) {
	for text, want := range map[string][]int{"": nil, "2 0 13": {2, 0, 13}, "0 0": {0, 0}} {
		if got := notation.Dimensions(api.Form{Kind: api.FormArray, Text: text}); !slices.Equal(got, want) {
			t.Errorf("Dimensions of %q = %v", text, got)
		}
	}
}
