package symbols_test

import (
	"fmt"
	"slices"
	"sort"
	"strings"
	"testing"

	"commonform/api"
	"commonform/symbols"
)

func fails(t *testing.T, what string, got, want api.Errno) {
	t.Helper()
	if got != want {
		t.Errorf("%s: %v; want %v", what, got, want)
	}
}

// found checks what Find tells.
func found(t *testing.T, s *symbols.Table, pack, name string, symbol, status int) {
	t.Helper()
	if n, m, e := s.Find(pack, name); n != symbol || m != status || e != api.OK {
		t.Errorf("Find(%q, %q) = %d, %d, %v; want %d, %d", pack, name, n, m, e, symbol, status)
	}
}

// intern returns a symbol that has to be a new one.
func intern(t *testing.T, s *symbols.Table, pack, name string) int {
	t.Helper()
	n, status, e := s.Intern(pack, name)
	if status != symbols.None || e != api.OK {
		t.Fatalf("Intern(%q, %q) = %d, %d, %v", pack, name, n, status, e)
	}
	return n
}

// made returns a table with these packages, which use none.
func made(t *testing.T, packs ...string) *symbols.Table {
	t.Helper()
	s := symbols.New()
	for _, name := range packs {
		fails(t, "Make "+name, s.Make(name, nil, nil), api.OK)
	}
	return s
}

// exported returns the number of a new symbol that is external in a package.
func exported(t *testing.T, s *symbols.Table, pack, name string) int {
	t.Helper()
	n := intern(t, s, pack, name)
	fails(t, "Export "+name, s.Export(pack, n), api.OK)
	return n
}

// model is a table in the simplest way: what is refused is found by looking at all of the result.
type model struct {
	names, homes []string
	packs        []modelPack
}

type modelPack struct {
	name                          string
	nicknames, uses               []string
	internal, external, shadowing []int
}

func newModel() model {
	return model{packs: []modelPack{{name: "COMMON-LISP", nicknames: []string{"CL"}}, {name: "KEYWORD"}, {name: "COMMON-LISP-USER", nicknames: []string{"CL-USER"}, uses: []string{"COMMON-LISP"}}}}
}

func (m model) clone() model {
	c := model{names: slices.Clone(m.names), homes: slices.Clone(m.homes)}
	for _, p := range m.packs {
		p.nicknames, p.uses = slices.Clone(p.nicknames), slices.Clone(p.uses)
		p.internal, p.external, p.shadowing = slices.Clone(p.internal), slices.Clone(p.external), slices.Clone(p.shadowing)
		c.packs = append(c.packs, p)
	}
	return c
}

// at returns the index of a package; -1 for none.
func (m model) at(name string) int {
	return slices.IndexFunc(m.packs, func(p modelPack) bool { return p.name == name || slices.Contains(p.nicknames, name) })
}

func (p modelPack) present() []int { return append(slices.Clone(p.internal), p.external...) }

// meanings returns the symbols that would be accessible under a name, if none hid another one.
func (m model) meanings(i int, name string) []int {
	var l []int
	add := func(from []int) {
		for _, n := range from {
			if m.names[n] == name && !slices.Contains(l, n) {
				l = append(l, n)
			}
		}
	}
	add(m.packs[i].present())
	for _, used := range m.packs[i].uses {
		add(m.packs[m.at(used)].external)
	}
	return l
}

// conflict reports whether a name has several meanings in a package.
func (m model) conflict() bool {
	for i, p := range m.packs {
		for _, name := range m.names {
			l := m.meanings(i, name)
			hidden := slices.ContainsFunc(l, func(n int) bool { return slices.Contains(p.shadowing, n) })
			if len(l) > 1 && !hidden {
				return true
			}
		}
	}
	return false
}

// find returns the accessible symbol, and its status.
func (m model) find(i int, name string) (int, int) {
	l := m.meanings(i, name)
	if len(l) == 0 {
		return -1, symbols.None
	}
	for _, n := range l {
		if slices.Contains(m.packs[i].internal, n) {
			return n, symbols.Internal
		}
		if slices.Contains(m.packs[i].external, n) {
			return n, symbols.External
		}
	}
	return l[0], symbols.Inherited
}

func without(l []int, n int) []int {
	return slices.DeleteFunc(slices.Clone(l), func(m int) bool { return m == n })
}

// take takes a symbol away from a package.
func (m *model) take(i, n int) {
	p := &m.packs[i]
	p.internal, p.external, p.shadowing = without(p.internal, n), without(p.external, n), without(p.shadowing, n)
	if m.homes[n] == p.name {
		m.homes[n] = ""
	}
}

// presentAs returns the symbol with a name that is present; -1 for none.
func (m model) presentAs(i int, name string) int {
	for _, n := range m.packs[i].present() {
		if m.names[n] == name {
			return n
		}
	}
	return -1
}

// text returns the text of a table with all that the model has.
func (m model) text() string {
	var b strings.Builder
	hex := func(s string) string { return fmt.Sprintf("x%x", s) }
	words := func(l []string) string {
		var out []string
		for _, s := range l {
			out = append(out, hex(s))
		}
		if len(out) == 0 {
			return "-"
		}
		return strings.Join(out, ",")
	}
	numbers := func(l []int) string {
		if len(l) == 0 {
			return "-"
		}
		l = slices.Clone(l)
		sort.Ints(l)
		return strings.ReplaceAll(strings.Trim(fmt.Sprint(l), "[]"), " ", ",")
	}
	for i, name := range m.names {
		home := hex(m.homes[i])
		if m.homes[i] == "" {
			home = "-"
		}
		fmt.Fprintf(&b, "symbol %s %s\n", hex(name), home)
	}
	for _, p := range m.packs {
		fmt.Fprintf(&b, "package %s %s %s %s %s %s\n", hex(p.name), words(p.nicknames), words(p.uses), numbers(p.internal), numbers(p.external), numbers(p.shadowing))
	}
	return b.String()
}
