package loop

import (
	"iter"

	"commonform/api"
	"commonform/forms"
	"commonform/place"
)

// each yields clauses, each one ahead of those in its Then, and these ahead of those in its Else.
func each(l []Clause) iter.Seq[Clause] {
	return func(yield func(Clause) bool) {
		var walk func(l []Clause) bool
		walk = func(l []Clause) bool {
			for _, c := range l {
				if !yield(c) || !walk(c.Then) || !walk(c.Else) {
					return false
				}
			}
			return true
		}
		walk(l)
	}
}

// Check returns the error of clauses.
func Check(l []Clause) api.Errno {
	n := 0
	for range each(l) {
		n++
		if n > maxClauses {
			return api.ErrSize
		}
	}
	for c := range each(l) {
		if !right(c) {
			return api.ErrForm
		}
	}
	if !ordered(l) {
		return api.ErrOrder
	}
	if !fitting(l) {
		return ErrKind
	}
	return api.OK
}

// right reports whether a clause is as its kind says; those in its Then and Else are looked at for themselves.
func right(c Clause) bool {
	for _, f := range c.Forms {
		if forms.Check(f) != api.OK {
			return false
		}
	}
	if c.Var.Kind != 0 && forms.Check(c.Var) != api.OK {
		return false
	}
	return rightVariable(c) && rightForms(c) && rightParts(c)
}

func rightVariable(c Clause) bool {
	switch c.Kind {
	case Named:
		return c.Var.Kind == api.FormSymbol
	case With, Arithmetic, In, On, Across, Equals:
		return variable(c.Var)
	case Collect, Append, Sum, Count, Maximize, Minimize:
		return forms.IsNil(c.Var) || variable(c.Var)
	}
	return forms.Equal(c.Var, api.Form{})
}

// variable reports whether a form is a symbol that is no constant.
func variable(f api.Form) bool { return f.Kind == api.FormSymbol && !place.Constant(f) }

func rightForms(c Clause) bool {
	n := len(c.Forms)
	switch c.Kind {
	case Named:
		return n == 0
	case Initially, Finally, Do:
		return n > 0 && simple(c.Forms)
	case Arithmetic:
		return n == 4 && rightNumbers(c.Forms)
	case In, On, Equals:
		return n == 1 || n == 2
	}
	return n == 1 && c.Kind >= Named && c.Kind <= Return
}

// rightNumbers reports whether it is said how a variable goes, and up to where, if it does not get there.
func rightNumbers(l []api.Form) bool {
	if l[how].Kind != api.FormInt {
		return false
	}
	switch l[how].Text {
	case "0", "2":
		return true
	case "1", "3":
		return !forms.IsNil(l[limit])
	}
	return false
}

// rightParts reports whether a clause has others where it may.
func rightParts(c Clause) bool {
	if c.Kind != If && c.Kind != Unless {
		return len(c.Then) == 0 && len(c.Else) == 0
	}
	for _, l := range [...][]Clause{c.Then, c.Else} {
		for _, part := range l {
			if !selectable(part.Kind) {
				return false
			}
		}
	}
	return len(c.Then) > 0
}

// ordered reports whether clauses stand in their order.
func ordered(l []Clause) bool {
	begun := false // whether there was a clause of the body
	for i, c := range l {
		switch c.Kind {
		case Named:
			if i > 0 {
				return false
			}
		case With, Arithmetic, In, On, Across, Equals:
			if begun {
				return false
			}
		case Initially, Finally, Repeat:
		default:
			begun = true
		}
	}
	return true
}

// Groups of clauses with results.
const (
	noGroup = iota
	ofLists
	ofSums
	ofBest
)

func group(kind int) int {
	switch kind {
	case Collect, Append:
		return ofLists
	case Sum, Count:
		return ofSums
	case Maximize, Minimize:
		return ofBest
	}
	return noGroup
}

// fitting reports whether the results of clauses fit together.
func fitting(l []Clause) bool {
	groups := map[[2]string]int{} // by variables; the hidden one is NIL
	hidden, answers := false, false
	for c := range each(l) {
		answers = answers || c.Kind == Always || c.Kind == Never || c.Kind == Thereis
		g := group(c.Kind)
		if g == noGroup {
			continue
		}
		hidden = hidden || forms.IsNil(c.Var)
		name := [2]string{c.Var.Home, c.Var.Text}
		if known, met := groups[name]; met && known != g {
			return false
		}
		groups[name] = g
	}
	return !hidden || !answers
}
