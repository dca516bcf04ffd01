package symbols_test

import (
	"fmt"
	"math/rand"
	"slices"
	"testing"

	"commonform/api"
	"commonform/symbols"
)

// step is a call: what it is, the table's answer, and the model's.
type step struct {
	what      string
	table     func(s *symbols.Table) (int, int, api.Errno)
	model     func(m *model) (int, int, api.Errno)
	mayChange bool
}

// commit puts a changed model in the place of the old one, unless it has a conflict.
func commit(m *model, changed model) api.Errno {
	if changed.conflict() {
		return symbols.ErrClash
	}
	*m = changed
	return api.OK
}

func only(e api.Errno) (int, int, api.Errno) { return 0, 0, e }

// symbolStep returns a call with a package and the number of a symbol.
func symbolStep(what, pack string, n int, table func(s *symbols.Table) (int, int, api.Errno), change func(m *model, i int) (int, int, api.Errno)) step {
	return step{what: fmt.Sprintf("%s(%q, %d)", what, pack, n), table: table, mayChange: true, model: func(m *model) (int, int, api.Errno) {
		i := m.at(pack)
		if i < 0 || n < 0 || n >= len(m.names) {
			return 0, 0, api.ErrNone
		}
		return change(m, i)
	}}
}

func exportStep(pack string, n int) step {
	return symbolStep("Export", pack, n, func(s *symbols.Table) (int, int, api.Errno) { return only(s.Export(pack, n)) }, func(m *model, i int) (int, int, api.Errno) {
		if found, _ := m.find(i, m.names[n]); found != n {
			return only(symbols.ErrAccess)
		}
		c := m.clone()
		c.packs[i].internal = without(c.packs[i].internal, n)
		c.packs[i].external = append(without(c.packs[i].external, n), n)
		return only(commit(m, c))
	})
}

func unexportStep(pack string, n int) step {
	return symbolStep("Unexport", pack, n, func(s *symbols.Table) (int, int, api.Errno) { return only(s.Unexport(pack, n)) }, func(m *model, i int) (int, int, api.Errno) {
		found, status := m.find(i, m.names[n])
		switch {
		case found != n:
			return only(symbols.ErrAccess)
		case m.packs[i].name == "KEYWORD":
			return only(api.ErrArg)
		case status == symbols.External:
			m.packs[i].external = without(m.packs[i].external, n)
			m.packs[i].internal = append(m.packs[i].internal, n)
		}
		return only(api.OK)
	})
}

func importStep(pack string, n int) step {
	return symbolStep("Import", pack, n, func(s *symbols.Table) (int, int, api.Errno) { return only(s.Import(pack, n)) }, func(m *model, i int) (int, int, api.Errno) {
		found, status := m.find(i, m.names[n])
		switch {
		case found >= 0 && found != n:
			return only(symbols.ErrClash)
		case found == n && status != symbols.Inherited:
			return only(api.OK)
		}
		m.packs[i].internal = append(m.packs[i].internal, n)
		if m.homes[n] == "" {
			m.homes[n] = m.packs[i].name
		}
		return only(api.OK)
	})
}

func shadowingImportStep(pack string, n int) step {
	return symbolStep("ShadowingImport", pack, n, func(s *symbols.Table) (int, int, api.Errno) { return only(s.ShadowingImport(pack, n)) }, func(m *model, i int) (int, int, api.Errno) {
		old := m.presentAs(i, m.names[n])
		if old >= 0 && old != n {
			m.take(i, old)
		}
		if old != n {
			m.packs[i].internal = append(m.packs[i].internal, n)
		}
		m.packs[i].shadowing = append(without(m.packs[i].shadowing, n), n)
		return only(api.OK)
	})
}

func uninternStep(pack string, n int) step {
	table := func(s *symbols.Table) (int, int, api.Errno) {
		ok, e := s.Unintern(pack, n)
		return map[bool]int{true: 1}[ok], 0, e
	}
	return symbolStep("Unintern", pack, n, table, func(m *model, i int) (int, int, api.Errno) {
		if m.presentAs(i, m.names[n]) != n {
			return 0, 0, api.OK
		}
		c := m.clone()
		c.take(i, n)
		if e := commit(m, c); e != api.OK {
			return only(e)
		}
		return 1, 0, api.OK
	})
}

func internStep(pack, name string) step {
	return step{what: fmt.Sprintf("Intern(%q, %q)", pack, name), mayChange: true, table: func(s *symbols.Table) (int, int, api.Errno) { return s.Intern(pack, name) }, model: func(m *model) (int, int, api.Errno) {
		i := m.at(pack)
		if i < 0 {
			return only(api.ErrNone)
		}
		if n, status := m.find(i, name); n >= 0 {
			return n, status, api.OK
		}
		n := len(m.names)
		m.names, m.homes = append(m.names, name), append(m.homes, m.packs[i].name)
		if m.packs[i].name == "KEYWORD" {
			m.packs[i].external = append(m.packs[i].external, n)
		} else {
			m.packs[i].internal = append(m.packs[i].internal, n)
		}
		return n, symbols.None, api.OK
	}}
}

func findStep(pack, name string) step {
	return step{what: fmt.Sprintf("Find(%q, %q)", pack, name), table: func(s *symbols.Table) (int, int, api.Errno) { return s.Find(pack, name) }, model: func(m *model) (int, int, api.Errno) {
		i := m.at(pack)
		if i < 0 {
			return only(api.ErrNone)
		}
		n, status := m.find(i, name)
		return n, status, api.OK
	}}
}

func shadowStep(pack, name string) step {
	return step{what: fmt.Sprintf("Shadow(%q, %q)", pack, name), mayChange: true, table: func(s *symbols.Table) (int, int, api.Errno) { return only(s.Shadow(pack, name)) }, model: func(m *model) (int, int, api.Errno) {
		i := m.at(pack)
		if i < 0 {
			return only(api.ErrNone)
		}
		n := m.presentAs(i, name)
		if n < 0 {
			n = len(m.names)
			m.names, m.homes = append(m.names, name), append(m.homes, m.packs[i].name)
			m.packs[i].internal = append(m.packs[i].internal, n)
		}
		m.packs[i].shadowing = append(without(m.packs[i].shadowing, n), n)
		return only(api.OK)
	}}
}

func useStep(pack, other string) step {
	return step{what: fmt.Sprintf("Use(%q, %q)", pack, other), mayChange: true, table: func(s *symbols.Table) (int, int, api.Errno) { return only(s.Use(pack, other)) }, model: func(m *model) (int, int, api.Errno) {
		i, k := m.at(pack), m.at(other)
		switch {
		case i < 0 || k < 0:
			return only(api.ErrNone)
		case i == k || m.packs[k].name == "KEYWORD":
			return only(api.ErrArg)
		case slices.Contains(m.packs[i].uses, m.packs[k].name):
			return only(api.OK)
		}
		c := m.clone()
		c.packs[i].uses = append(c.packs[i].uses, c.packs[k].name)
		return only(commit(m, c))
	}}
}

func unuseStep(pack, other string) step {
	return step{what: fmt.Sprintf("Unuse(%q, %q)", pack, other), mayChange: true, table: func(s *symbols.Table) (int, int, api.Errno) { return only(s.Unuse(pack, other)) }, model: func(m *model) (int, int, api.Errno) {
		i, k := m.at(pack), m.at(other)
		if i < 0 || k < 0 {
			return only(api.ErrNone)
		}
		m.packs[i].uses = slices.DeleteFunc(m.packs[i].uses, func(s string) bool { return s == m.packs[k].name })
		return only(api.OK)
	}}
}

func makeStep(name string, nicknames, uses []string) step {
	return step{what: fmt.Sprintf("Make(%q, %q, %q)", name, nicknames, uses), mayChange: true, table: func(s *symbols.Table) (int, int, api.Errno) { return only(s.Make(name, nicknames, uses)) }, model: func(m *model) (int, int, api.Errno) {
		c := m.clone()
		p := modelPack{name: name}
		for i, s := range append([]string{name}, nicknames...) {
			if m.at(s) >= 0 || s == name && i > 0 || slices.Contains(p.nicknames, s) {
				return only(api.ErrTwice)
			}
			if i > 0 {
				p.nicknames = append(p.nicknames, s)
			}
		}
		for _, s := range uses {
			if m.at(s) < 0 {
				return only(api.ErrNone)
			}
			p.uses = append(p.uses, m.packs[m.at(s)].name)
		}
		if slices.Contains(p.uses, "KEYWORD") {
			return only(api.ErrArg)
		}
		sorted := slices.Sorted(slices.Values(p.uses))
		if len(slices.Compact(sorted)) < len(p.uses) {
			return only(api.ErrTwice)
		}
		c.packs = append(c.packs, p)
		return only(commit(m, c))
	}}
}

func deleteStep(pack string) step {
	return step{what: fmt.Sprintf("Delete(%q)", pack), mayChange: true, table: func(s *symbols.Table) (int, int, api.Errno) { return only(s.Delete(pack)) }, model: func(m *model) (int, int, api.Errno) {
		i := m.at(pack)
		if i < 0 {
			return only(api.ErrNone)
		}
		if i < 3 {
			return only(api.ErrArg)
		}
		name := m.packs[i].name
		if slices.ContainsFunc(m.packs, func(p modelPack) bool { return slices.Contains(p.uses, name) }) {
			return only(symbols.ErrUsed)
		}
		for n, home := range m.homes {
			if home == name {
				m.homes[n] = ""
			}
		}
		m.packs = slices.Delete(m.packs, i, i+1)
		return only(api.OK)
	}}
}

func freshStep(name string) step {
	return step{what: fmt.Sprintf("Fresh(%q)", name), mayChange: true, table: func(s *symbols.Table) (int, int, api.Errno) {
		n, e := s.Fresh(name)
		return n, 0, e
	}, model: func(m *model) (int, int, api.Errno) {
		m.names, m.homes = append(m.names, name), append(m.homes, "")
		return len(m.names) - 1, 0, api.OK
	}}
}

// anyStep returns a random call.
func anyStep(r *rand.Rand, m model) step {
	packs := []string{"COMMON-LISP", "CL", "CL-USER", "COMMON-LISP-USER", "KEYWORD", "P", "Q", "QQ", "R", "S", "NONE"}
	names := []string{"X", "Y", "Z", "x", ""}
	pack, other, name := packs[r.Intn(len(packs))], packs[r.Intn(len(packs))], names[r.Intn(len(names))]
	n := r.Intn(len(m.names)+2) - 1
	switch r.Intn(20) {
	case 0, 1, 2:
		return internStep(pack, name)
	case 3, 4:
		return findStep(pack, name)
	case 5, 6, 7:
		return exportStep(pack, n)
	case 8:
		return unexportStep(pack, n)
	case 9, 10:
		return importStep(pack, n)
	case 11:
		return shadowStep(pack, name)
	case 12:
		return shadowingImportStep(pack, n)
	case 13:
		return uninternStep(pack, n)
	case 14, 15:
		return useStep(pack, other)
	case 16:
		return unuseStep(pack, other)
	case 17:
		return deleteStep(pack)
	case 18:
		return freshStep(name)
	}
	uses := []string{other, packs[r.Intn(len(packs))]}[:r.Intn(3)]
	return makeStep(pack, []string{"QQ", "QQQ"}[:r.Intn(3)], uses)
}

// checkTable checks what holds of each table (P10.2, P10.3, P10.6).
func checkTable(t *testing.T, s *symbols.Table, m model, what string) {
	t.Helper()
	if got, want := s.Text(), m.text(); got != want {
		t.Fatalf("%s: the text is\n%s; want\n%s", what, got, want)
	}
	again, e := symbols.Parse(m.text())
	if e != api.OK || again.Text() != m.text() {
		t.Fatalf("%s: Parse: %v", what, e)
	}
	for i, p := range m.packs {
		for _, name := range []string{"X", "Y", "Z", "x", ""} {
			want, status := m.find(i, name)
			if n, st, e := s.Find(p.name, name); n != want || st != status || e != api.OK {
				t.Fatalf("%s: Find(%q, %q) = %d, %d, %v; want %d, %d", what, p.name, name, n, st, e, want, status)
			}
		}
	}
}

// P10.1 to P10.6: calls in any order do what the model does, with the same errors; a table that was read does, too.
func TestModel(t *testing.T) {
	refused := map[api.Errno]int{}
	for seed := range int64(100) {
		r := rand.New(rand.NewSource(100 + seed))
		s, m := symbols.New(), newModel()
		for _, pack := range []string{"P", "Q"} {
			s.Make(pack, nil, nil)
			makeStep(pack, nil, nil).model(&m)
		}
		for i := range 200 {
			x := anyStep(r, m)
			before := s.Text()
			if i%50 == 7 {
				s, _ = symbols.Parse(before)
			}
			a, b, e := x.table(s)
			c, d, f := x.model(&m)
			if a != c || b != d || e != f {
				t.Fatalf("%s = %d, %d, %v; want %d, %d, %v; in\n%s", x.what, a, b, e, c, d, f, before)
			}
			if (e != api.OK || !x.mayChange) && s.Text() != before {
				t.Fatalf("%s: %v, and the table has changed", x.what, e)
			}
			refused[e]++
			checkTable(t, s, m, x.what)
		}
	}
	for _, e := range []api.Errno{api.OK, api.ErrArg, api.ErrNone, api.ErrTwice, symbols.ErrClash, symbols.ErrUsed, symbols.ErrAccess} {
		if refused[e] < 50 {
			t.Errorf("the code %v came just %d times", e, refused[e])
		}
	}
}
