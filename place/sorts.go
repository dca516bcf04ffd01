package place

import (
	"slices"

	"commonform/api"
	"commonform/forms"
	"commonform/trees"
)

// maker makes places and expansions, with fresh symbols.
type maker struct {
	writers []Writer
	fresh   int
}

// symbol takes a new symbol.
func (m *maker) symbol() api.Form {
	m.fresh++
	return Fresh(m.fresh - 1)
}

// place returns the expansion of a place, and whether the form is one.
func (m *maker) place(f api.Form) (Place, bool) {
	parts, _ := trees.Items(f)
	sorts := [...]func() (Place, bool){
		func() (Place, bool) { return m.variable(f) },
		func() (Place, bool) { return m.written(parts) },
		func() (Place, bool) { return m.written(standsFor(parts)) },
		func() (Place, bool) { return m.typed(parts) },
		func() (Place, bool) { return m.values(parts) },
		func() (Place, bool) { return m.called(parts) },
	}
	for _, sort := range sorts {
		if p, ok := sort(); ok {
			return p, true
		}
	}
	return Place{}, false
}

func (m *maker) variable(f api.Form) (Place, bool) {
	if !named(f) {
		return Place{}, false
	}
	g := m.symbol()
	return Place{Stores: []api.Form{g}, Write: trees.Call("SETQ", f, g), Read: f}, true
}

// written returns the place of a reader that has a writer.
func (m *maker) written(parts []api.Form) (Place, bool) {
	if len(parts) == 0 {
		return Place{}, false
	}
	for _, w := range slices.Backward(m.writers) {
		if forms.Equal(w.Reader, parts[0]) {
			return m.access(parts, func(args []api.Form, g api.Form) api.Form {
				return trees.List(slices.Concat([]api.Form{w.Writer}, args, []api.Form{g})...)
			}), true
		}
	}
	return Place{}, false
}

// access returns the place of a call, which write makes a call that writes a value.
func (m *maker) access(parts []api.Form, write func(args []api.Form, g api.Form) api.Form) Place {
	var p Place
	args := slices.Clone(parts[1:])
	for i, a := range args {
		if !Constant(a) {
			args[i] = m.symbol()
			p.Temps = append(p.Temps, args[i])
			p.Values = append(p.Values, a)
		}
	}
	g := m.symbol()
	p.Stores = []api.Form{g}
	p.Write = trees.Call("PROGN", write(args, g), g)
	p.Read = trees.List(append([]api.Form{parts[0]}, args...)...)
	return p
}

// standsFor returns what a place by another name stands for, and nothing for all others.
func standsFor(parts []api.Form) []api.Form {
	switch name := reserved(parts); {
	case name == "NTH" && len(parts) == 3:
		return []api.Form{trees.Name("CAR"), trees.Call("NTHCDR", parts[1:]...)}
	case len(parts) != 2:
	case name == "SECOND":
		return path("CAR", "CDR", parts[1])
	case name == "THIRD":
		return path("CAR", "CDR", trees.Call("CDR", parts[1]))
	case name == "CAAR":
		return path("CAR", "CAR", parts[1])
	case name == "CADR":
		return path("CAR", "CDR", parts[1])
	case name == "CDAR":
		return path("CDR", "CAR", parts[1])
	case name == "CDDR":
		return path("CDR", "CDR", parts[1])
	}
	return nil
}

func path(outer, inner string, x api.Form) []api.Form {
	return []api.Form{trees.Name(outer), trees.Call(inner, x)}
}

// reserved returns the name by which a list is a place of a sort of its own, or none at all; the empty name for all others.
func reserved(parts []api.Form) string {
	if len(parts) == 0 || parts[0].Kind != api.FormSymbol || parts[0].Home != trees.Lisp {
		return ""
	}
	switch name := parts[0].Text; name {
	case "NTH", "SECOND", "THIRD", "CAAR", "CADR", "CDAR", "CDDR", "THE", "VALUES":
		return name
	}
	return ""
}

// typed returns the place of (THE t p).
func (m *maker) typed(parts []api.Form) (Place, bool) {
	if reserved(parts) != "THE" || len(parts) != 3 {
		return Place{}, false
	}
	p, ok := m.place(parts[2])
	p.Read = trees.Call("THE", parts[1], p.Read)
	return p, ok
}

// values returns the place of (VALUES p ..).
func (m *maker) values(parts []api.Form) (Place, bool) {
	if reserved(parts) != "VALUES" {
		return Place{}, false
	}
	var all Place
	var writes, reads []api.Form
	for _, f := range parts[1:] {
		p, ok := m.place(f)
		if !ok {
			return Place{}, false
		}
		all.Temps = append(all.Temps, p.Temps...)
		all.Values = append(all.Values, p.Values...)
		all.Stores = append(all.Stores, p.Stores...)
		writes = append(writes, p.Write)
		reads = append(reads, p.Read)
	}
	all.Write, all.Read = trees.Call("VALUES", writes...), trees.Call("VALUES", reads...)
	return all, true
}

// called returns the place of any other call, which a function of the name (SETF f) writes.
func (m *maker) called(parts []api.Form) (Place, bool) {
	if len(parts) == 0 || !named(parts[0]) || reserved(parts) != "" {
		return Place{}, false
	}
	setter := forms.Symbol(parts[0].Home, "(SETF "+parts[0].Text+")")
	return m.access(parts, func(args []api.Form, g api.Form) api.Form {
		return trees.List(slices.Concat([]api.Form{setter, g}, args)...)
	}), true
}
