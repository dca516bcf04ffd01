package macro

import (
	"strconv"

	"commonform/api"
	"commonform/forms"
	"commonform/lambda"
	"commonform/trees"
)

// slot is what a slot of a class says: forms for its initarg, its init, and whether it is shared, and methods.
type slot struct {
	name, initarg, init, shared api.Form
	methods                     []api.Form
}

// defclass expands (DEFCLASS name (super ..) (slot ..) option ..).
func (m *maker) defclass(args []api.Form) api.Form {
	counted(args, 3, -1)
	name := symbol(args[0])
	for _, super := range proper(args[1]) {
		symbol(super)
	}
	r := slotReader{class: name}
	r.object = m.symbol()
	r.of = m.symbol()
	var slots, methods []api.Form
	for _, f := range proper(args[2]) {
		s := r.slot(f)
		slots = append(slots, trees.Call("LIST", quoted(s.name), quoted(s.initarg), s.init, s.shared))
		methods = append(methods, s.methods...)
	}
	class := trees.Call("%DEFCLASS", quoted(name), quoted(args[1]), trees.Call("LIST", slots...))
	return performed(name, append([]api.Form{class}, methods...)...)
}

// slotReader reads the slots of a class; methods have two fresh variables: the object of a reader or the value of a writer, and the object of a writer.
type slotReader struct{ class, object, of api.Form }

// slot reads a slot. Of several keys that say the same the first one counts.
func (r slotReader) slot(f api.Form) slot {
	parts := []api.Form{f}
	if f.Kind != api.FormSymbol {
		parts = counted(proper(f), 1, -1)
	}
	s := slot{name: symbol(parts[0]), initarg: forms.Nil(), init: forms.Nil(), shared: forms.Nil()}
	met := map[string]bool{}
	need(len(parts)%2 == 1)
	for i := 1; i < len(parts); i += 2 {
		key := symbol(parts[i])
		need(key.Home == trees.Keyword)
		r.option(&s, key.Text, parts[i+1], !met[key.Text])
		met[key.Text] = true
	}
	return s
}

// option reads a key of a slot and what stands behind it.
func (r slotReader) option(s *slot, key string, x api.Form, first bool) {
	switch key {
	case "INITARG":
		symbol(x)
		if first {
			s.initarg = x
		}
	case "INITFORM":
		if first {
			s.init = function(forms.Nil(), x)
		}
	case "ALLOCATION":
		shared := forms.Is(x, trees.Keyword, "CLASS")
		need(shared || forms.Is(x, trees.Keyword, "INSTANCE"))
		if first && shared {
			s.shared = truth()
		}
	case "READER":
		s.methods = append(s.methods, r.reads(symbol(x), s.name))
	case "ACCESSOR":
		s.methods = append(s.methods, r.reads(symbol(x), s.name), r.writes(x, s.name))
	case "TYPE", "DOCUMENTATION":
	default:
		need(false)
	}
}

// reads returns the method that reads a slot.
func (r slotReader) reads(name, slot api.Form) api.Form {
	list := trees.List(trees.List(r.object, r.class))
	return trees.Call("DEFMETHOD", name, list, trees.Call("SLOT-VALUE", r.object, quoted(slot)))
}

// writes returns the method that writes a slot.
func (r slotReader) writes(name, slot api.Form) api.Form {
	list := trees.List(r.object, trees.List(r.of, r.class))
	return trees.Call("DEFMETHOD", trees.Call("SETF", name), list, trees.Call("%SET-SLOT-VALUE", r.of, quoted(slot), r.object))
}

// defgeneric expands (DEFGENERIC name list option ..).
func (m *maker) defgeneric(args []api.Form) api.Form {
	counted(args, 2, -1)
	name, _ := functionName(args[0])
	n := integer(strconv.Itoa(required(args[1])))
	generic := trees.Call("%DEFGENERIC", quoted(name), quoted(combination(args[2:])), n)
	a := m.symbol()
	caller := function(trees.List(trees.Name("&REST"), a), trees.Call("%CALL-GENERIC", quoted(name), a))
	return performed(name, generic, setFunction(name, caller))
}

// combination returns the name of the method combination that options say first.
func combination(options []api.Form) api.Form {
	var said []api.Form
	for _, f := range options {
		option := counted(proper(f), 1, -1)
		if forms.Is(option[0], trees.Keyword, "METHOD-COMBINATION") {
			said = append(said, symbol(counted(option, 2, 2)[1]))
		}
	}
	return append(said, trees.Name("STANDARD"))[0]
}

// defmethod expands (DEFMETHOD name qualifier .. list decl .. form ..).
func (m *maker) defmethod(args []api.Form) api.Form {
	counted(args, 2, -1)
	name, block := functionName(args[0])
	n := 1
	for n < len(args) && args[n].Kind == api.FormSymbol && !forms.IsNil(args[n]) {
		n++
	}
	need(n < len(args))
	list, specs := specialized(args[n])
	declarations, body := divided(args[n+1:])
	method := m.method(function(list, append(declarations, call("BLOCK", body, block))...))
	ensure := trees.Call("IF", trees.Call("%GENERIC-P", quoted(name)), forms.Nil(), trees.Call("DEFGENERIC", name, list))
	qualifiers := quoted(trees.List(args[1:n]...))
	return performed(name, ensure, trees.Call("%DEFMETHOD", quoted(name), qualifiers, trees.Call("LIST", specs...), method))
}

// specialized returns the lambda list of a method with variables alone, and the forms of its specializers.
func specialized(f api.Form) (list api.Form, specs []api.Form) {
	l := append([]api.Form(nil), proper(f)...)
	for i, x := range l {
		if trees.Marker(x) {
			break
		}
		spec := quoted(truth())
		if x.Kind != api.FormSymbol {
			parts := counted(proper(x), 2, 2)
			l[i] = parts[0]
			spec = specializer(parts[1])
		}
		variable(l[i])
		specs = append(specs, spec)
	}
	list = trees.List(l...)
	_, e := lambda.Parse(list, false)
	need(e == api.OK)
	return list, specs
}

// specializer returns the form of a class, or of (EQL e).
func specializer(f api.Form) api.Form {
	if f.Kind == api.FormSymbol {
		return quoted(f)
	}
	parts := counted(proper(f), 2, 2)
	need(forms.Is(parts[0], trees.Lisp, "EQL"))
	return trees.Call("LIST", quoted(parts[0]), parts[1])
}

// method returns the function of a method: it gets the function of the next one, or NIL, and the arguments.
func (m *maker) method(body api.Form) api.Form {
	next := m.symbol()
	args := m.symbol()
	others := m.symbol()
	rest := trees.Name("&REST")
	apply := trees.Call("APPLY", next, trees.Call("IF", others, others, args))
	calls := trees.List(trees.Name("CALL-NEXT-METHOD"), trees.List(rest, others), trees.Call("IF", next, apply, trees.Call("%NO-NEXT-METHOD")))
	asks := trees.List(trees.Name("NEXT-METHOD-P"), forms.Nil(), trees.Call("IF", next, truth(), forms.Nil()))
	flet := trees.Call("FLET", trees.List(calls, asks), trees.Call("APPLY", body, args))
	return function(trees.List(next, rest, args), flet)
}

// withSlots expands (WITH-SLOTS (s ..) e form ..).
func (m *maker) withSlots(args []api.Form) api.Form {
	counted(args, 2, -1)
	a := m.symbol()
	var macros []api.Form
	for _, s := range proper(args[0]) {
		macros = append(macros, trees.List(variable(s), trees.Call("SLOT-VALUE", a, quoted(s))))
	}
	return let(a, args[1], call("SYMBOL-MACROLET", args[2:], trees.List(macros...)))
}
