package meaning_test

import (
	"fmt"
	"math/rand"
	"slices"
	"strings"
	"testing"

	"commonform/api"
	"commonform/core"
	"commonform/forms"
	"commonform/heap"
	"commonform/lib"
	"commonform/meaning"
)

// The model evaluates forms themselves: variables, blocks and tags are found by their names, values are Go's, and exits are results. An int and a symbol are an object, and so are conses and functions by their pointers.
type pair struct{ car, cdr any }

type symbol string

type function struct {
	name   string // of a builtin one
	params []parameter
	block  string // around its body
	body   []api.Form
	scope  *meant
}

type parameter struct {
	kind        string // "", "&optional", "&rest" or "&key"
	name, tells string
	init        api.Form
	hasTells    bool
}

// meant is a name with its meaning; special variables have no place.
type meant struct {
	outer *meant
	sort  byte // v, f, b or t
	name  string
	place *any
	run   *int // of a block or tagbody: whether it is running (1)
	at    int  // of a tag: its segment
}

func (s *meant) find(sort byte, name string) *meant {
	for ; s != nil; s = s.outer {
		if s.sort == sort && s.name == name {
			return s
		}
	}
	return nil
}

// way is how an evaluation leaves: to a block or tagbody, to a catch, or with a fault.
type way struct {
	run    *int
	at     int
	tag    any
	throws bool
	fault  string
	values []any
}

type model struct {
	specials map[string]any
	catches  []any
	output   strings.Builder
	left     int // evaluations
}

type tooLong struct{}

func (m *model) fault(format string, data ...any) ([]any, *way) {
	return nil, &way{fault: fmt.Sprintf(format, data...)}
}

// text returns the text of an object.
func text(x any) string {
	switch x := x.(type) {
	case nil:
		return "nil"
	case int:
		return fmt.Sprint(x)
	case symbol:
		return string(x)
	case *pair:
		s := "("
		for {
			s += text(x.car)
			next, ok := x.cdr.(*pair)
			if !ok {
				if x.cdr != nil {
					s += " . " + text(x.cdr)
				}
				return s + ")"
			}
			s += " "
			x = next
		}
	case *function:
		if x.name != "" {
			return "%::builtin"
		}
		return "%::closure"
	}
	return "?"
}

func texts(l []any) string {
	var all []string
	for _, x := range l {
		all = append(all, text(x))
	}
	return strings.Join(all, " ")
}

func listOf(l []any) any {
	var x any
	for _, y := range slices.Backward(l) {
		x = &pair{y, x}
	}
	return x
}

// nameOf returns the name of a symbol as it is printed.
func nameOf(f api.Form) string {
	name := strings.ToLower(f.Text)
	if f.Home == "KEYWORD" {
		return ":" + name
	}
	return name
}

func quoted(f api.Form) any {
	switch f.Kind {
	case api.FormInt:
		n := 0
		fmt.Sscan(f.Text, &n)
		return n
	case api.FormSymbol:
		if forms.IsNil(f) {
			return nil
		}
		return symbol(nameOf(f))
	}
	l, _ := forms.Items(f)
	var all []any
	for _, x := range l {
		all = append(all, quoted(x))
	}
	return listOf(all)
}

func one(values []any) any {
	if len(values) == 0 {
		return nil
	}
	return values[0]
}

// single evaluates a form for its first value.
func (m *model) single(f api.Form, s *meant) (any, *way) {
	l, w := m.eval(f, s)
	return one(l), w
}

// all evaluates forms for their first values.
func (m *model) all(l []api.Form, s *meant) ([]any, *way) {
	var out []any
	for _, f := range l {
		x, w := m.single(f, s)
		if w != nil {
			return nil, w
		}
		out = append(out, x)
	}
	return out, nil
}

func (m *model) progn(l []api.Form, s *meant) ([]any, *way) {
	out := []any{nil}
	for _, f := range l {
		var w *way
		if out, w = m.eval(f, s); w != nil {
			return nil, w
		}
	}
	return out, nil
}

// declared takes the declarations of a body.
func declared(l []api.Form) (map[string]bool, []api.Form) {
	special := map[string]bool{}
	for len(l) > 0 && len(l[0].Kids) > 0 && forms.Is(l[0].Kids[0], "COMMON-LISP", "DECLARE") {
		for _, spec := range l[0].Kids[1 : len(l[0].Kids)-1] {
			for _, v := range spec.Kids[1 : len(spec.Kids)-1] {
				special[nameOf(v)] = true
			}
		}
		l = l[1:]
	}
	return special, l
}

// specially returns a scope in which variables are special.
func (s *meant) specially(special map[string]bool) *meant {
	for name := range special {
		s = &meant{outer: s, sort: 'v', name: name}
	}
	return s
}

func (s *meant) with(name string, x any) *meant {
	return &meant{outer: s, sort: 'v', name: name, place: &x}
}

// oneByOne binds variables to the values of init forms, one behind the other.
func (m *model) oneByOne(names []string, inits []api.Form, special map[string]bool, s *meant, f func(*meant) ([]any, *way)) ([]any, *way) {
	if len(names) == 0 {
		return f(s)
	}
	x, w := m.single(inits[0], s)
	if w != nil {
		return nil, w
	}
	on := func(s *meant) ([]any, *way) { return m.oneByOne(names[1:], inits[1:], special, s, f) }
	if !special[names[0]] {
		return on(s.with(names[0], x))
	}
	return m.bind(names[:1], []any{x}, func() ([]any, *way) { return on(s.specially(map[string]bool{names[0]: true})) })
}

// bind binds special variables for the time of a call; missing ones have no value.
func (m *model) bind(names []string, values []any, f func() ([]any, *way)) ([]any, *way) {
	type had struct {
		x  any
		ok bool
	}
	var old []had
	for _, name := range names {
		x, ok := m.specials[name]
		old = append(old, had{x, ok})
	}
	for i, name := range names {
		delete(m.specials, name)
		if i < len(values) {
			m.specials[name] = values[i]
		}
	}
	l, w := f()
	for i, name := range slices.Backward(names) {
		delete(m.specials, name)
		if old[i].ok {
			m.specials[name] = old[i].x
		}
	}
	return l, w
}

func (m *model) eval(f api.Form, s *meant) ([]any, *way) {
	if m.left--; m.left < 0 {
		panic(tooLong{})
	}
	switch {
	case f.Kind == api.FormSymbol && (f.Home == "KEYWORD" || forms.IsNil(f) || forms.Is(f, "COMMON-LISP", "T")), f.Kind == api.FormInt:
		return []any{quoted(f)}, nil
	case f.Kind == api.FormSymbol:
		if v := s.find('v', nameOf(f)); v != nil && v.place != nil {
			return []any{*v.place}, nil
		}
		x, ok := m.specials[nameOf(f)]
		if !ok {
			return m.fault("UNBOUND-VARIABLE %s", nameOf(f))
		}
		return []any{x}, nil
	}
	args := f.Kids[1 : len(f.Kids)-1]
	return m.special(nameOf(f.Kids[0]), args, s)
}

func (m *model) special(name string, args []api.Form, s *meant) ([]any, *way) {
	switch name {
	case "quote":
		return []any{quoted(args[0])}, nil
	case "function":
		return m.function(args[0], s)
	case "if":
		x, w := m.single(args[0], s)
		if w != nil {
			return nil, w
		}
		if x != nil {
			return m.eval(args[1], s)
		}
		return m.progn(args[2:], s)
	case "progn":
		return m.progn(args, s)
	case "let", "let*":
		return m.let(name == "let*", args, s)
	case "setq":
		x, w := m.single(args[1], s)
		if w != nil {
			return nil, w
		}
		if v := s.find('v', nameOf(args[0])); v != nil && v.place != nil {
			*v.place = x
		} else {
			m.specials[nameOf(args[0])] = x
		}
		return []any{x}, nil
	case "flet", "labels":
		return m.locals(name == "labels", args, s)
	case "multiple-value-call", "multiple-value-prog1", "progv":
		return m.values(name, args, s)
	}
	return m.leaving(name, args, s)
}

func (m *model) let(star bool, args []api.Form, s *meant) ([]any, *way) {
	special, body := declared(args[1:])
	var names []string
	var inits []api.Form
	for _, b := range args[0].Kids[:len(args[0].Kids)-1] {
		names, inits = append(names, nameOf(b.Kids[0])), append(inits, b.Kids[1])
	}
	if star {
		return m.oneByOne(names, inits, special, s, func(s *meant) ([]any, *way) { return m.progn(body, s.specially(special)) })
	}
	values, w := m.all(inits, s)
	if w != nil {
		return nil, w
	}
	var bound []string
	var with []any
	for i, name := range names {
		if special[name] {
			bound, with = append(bound, name), append(with, values[i])
		} else {
			s = s.with(name, values[i])
		}
	}
	return m.bind(bound, with, func() ([]any, *way) { return m.progn(body, s.specially(special)) })
}

// leaving evaluates what has to do with exits.
func (m *model) leaving(name string, args []api.Form, s *meant) ([]any, *way) {
	switch name {
	case "block":
		return m.block(nameOf(args[0]), s, func(s *meant) ([]any, *way) { return m.progn(args[1:], s) })
	case "return-from":
		b := s.find('b', nameOf(args[0]))
		l, w := m.eval(args[1], s)
		if w != nil {
			return nil, w
		}
		if *b.run == 0 {
			return m.fault("CONTROL-ERROR")
		}
		return nil, &way{run: b.run, values: l}
	case "tagbody":
		return m.tagbody(args, s)
	case "go":
		t := s.find('t', nameOf(args[0]))
		if *t.run == 0 {
			return m.fault("CONTROL-ERROR")
		}
		return nil, &way{run: t.run, at: t.at}
	case "catch":
		tag, w := m.single(args[0], s)
		if w != nil {
			return nil, w
		}
		m.catches = append(m.catches, tag)
		depth := len(m.catches)
		l, w := m.progn(args[1:], s)
		m.catches = m.catches[:depth-1]
		if w != nil && w.throws && w.at == depth {
			return w.values, nil
		}
		return l, w
	case "throw":
		tag, w := m.single(args[0], s)
		if w != nil {
			return nil, w
		}
		l, w := m.eval(args[1], s)
		if w != nil {
			return nil, w
		}
		for i, x := range slices.Backward(m.catches) {
			if x == tag {
				return nil, &way{throws: true, at: i + 1, values: l}
			}
		}
		return m.fault("CONTROL-ERROR %s", text(tag))
	case "unwind-protect":
		depth := len(m.catches)
		l, w := m.eval(args[0], s)
		m.catches = m.catches[:depth]
		if _, other := m.progn(args[1:], s); other != nil {
			return nil, other
		}
		return l, w
	}
	return m.global(name, args, s)
}

func (m *model) block(name string, s *meant, f func(*meant) ([]any, *way)) ([]any, *way) {
	running := 1
	l, w := f(&meant{outer: s, sort: 'b', name: name, run: &running})
	running = 0
	if w != nil && w.run == &running {
		return w.values, nil
	}
	return l, w
}

func (m *model) tagbody(args []api.Form, s *meant) ([]any, *way) {
	running := 1
	for i, x := range args {
		if x.Kind == api.FormSymbol {
			s = &meant{outer: s, sort: 't', name: nameOf(x), run: &running, at: i}
		}
	}
	for i := 0; i < len(args); i++ {
		if args[i].Kind == api.FormSymbol {
			continue
		}
		_, w := m.eval(args[i], s)
		if w != nil && w.run == &running {
			i = w.at
		} else if w != nil {
			running = 0
			return nil, w
		}
	}
	running = 0
	return []any{nil}, nil
}

func (m *model) values(name string, args []api.Form, s *meant) ([]any, *way) {
	first, w := m.eval(args[0], s)
	if w != nil {
		return nil, w
	}
	switch name {
	case "multiple-value-prog1":
		_, w := m.progn(args[1:], s)
		return first, w
	case "multiple-value-call":
		var all []any
		for _, f := range args[1:] {
			l, w := m.eval(f, s)
			if w != nil {
				return nil, w
			}
			all = append(all, l...)
		}
		return m.call(one(first), all)
	}
	second, w := m.single(args[1], s)
	if w != nil {
		return nil, w
	}
	var names []string
	for x, ok := one(first).(*pair); ok; x, ok = x.cdr.(*pair) {
		names = append(names, string(x.car.(symbol)))
	}
	var with []any
	x, ok := second.(*pair)
	if !ok && second != nil {
		return m.fault("TYPE-ERROR %s list", text(second))
	}
	for ; ok; x, ok = x.cdr.(*pair) {
		with = append(with, x.car)
		if _, more := x.cdr.(*pair); !more && x.cdr != nil {
			return m.fault("TYPE-ERROR %s list", text(second))
		}
	}
	return m.bind(names, with, func() ([]any, *way) { return m.progn(args[2:], s) })
}

// functionOf makes a function of (list form ..).
func functionOf(parts []api.Form, block string, s *meant) *function {
	f := &function{block: block, body: parts[1:], scope: s}
	kind := ""
	l, _ := forms.Items(parts[0])
	for _, x := range l {
		switch {
		case x.Kind == api.FormSymbol && strings.HasPrefix(x.Text, "&"):
			kind = nameOf(x)
		case x.Kind == api.FormSymbol:
			f.params = append(f.params, parameter{kind: kind, name: nameOf(x), init: forms.Nil()})
		case kind == "&aux":
			f.params = append(f.params, parameter{kind: kind, name: nameOf(x.Kids[0]), init: x.Kids[1]})
		default:
			f.params = append(f.params, parameter{kind: kind, name: nameOf(x.Kids[0]), init: x.Kids[1], tells: nameOf(x.Kids[2]), hasTells: true})
		}
	}
	return f
}

func (m *model) function(f api.Form, s *meant) ([]any, *way) {
	if f.Kind == api.FormCons {
		return []any{functionOf(f.Kids[1:len(f.Kids)-1], "", s)}, nil
	}
	if local := s.find('f', nameOf(f)); local != nil {
		return []any{*local.place}, nil
	}
	return []any{&function{name: nameOf(f)}}, nil
}

func (m *model) locals(labels bool, args []api.Form, s *meant) ([]any, *way) {
	inner := s
	var made []*function
	for _, d := range args[0].Kids[:len(args[0].Kids)-1] {
		f := functionOf(d.Kids[1:len(d.Kids)-1], nameOf(d.Kids[0]), s)
		made = append(made, f)
		var x any = f
		inner = &meant{outer: inner, sort: 'f', name: nameOf(d.Kids[0]), place: &x}
	}
	for _, f := range made {
		if labels {
			f.scope = inner
		}
	}
	return m.progn(args[1:], inner)
}

func (m *model) global(name string, args []api.Form, s *meant) ([]any, *way) {
	values, w := m.all(args, s)
	if w != nil {
		return nil, w
	}
	if local := s.find('f', name); local != nil {
		return m.call(*local.place, values)
	}
	return m.call(&function{name: name}, values)
}

func (m *model) call(x any, args []any) ([]any, *way) {
	if m.left--; m.left < 0 {
		panic(tooLong{})
	}
	f, ok := x.(*function)
	if _, named := x.(symbol); named || x == nil {
		return m.fault("UNDEFINED-FUNCTION %s", text(x))
	}
	if !ok {
		return m.fault("TYPE-ERROR %s function", text(x))
	}
	if f.name != "" {
		return m.builtin(f.name, args)
	}
	if !accepts(f, args) {
		return m.fault("PROGRAM-ERROR %%::closure")
	}
	s := f.scope
	special, body := declared(f.body)
	var bound, aux []string
	var with []any
	var inits []api.Form
	mine := map[string]bool{}
	take := func(name string, x any) {
		s = s.with(name, x)
		if special[name] {
			mine[name] = true
			bound, with = append(bound, name), append(with, x)
		}
	}
	for _, p := range f.params {
		var x any
		given := true
		switch {
		case p.kind == "&aux":
			aux, inits = append(aux, p.name), append(inits, p.init)
			continue
		case p.kind == "&rest":
			x = listOf(args)
		case p.kind == "&key":
			given = false
			for i := 0; i+1 < len(args) && !given; i += 2 {
				if args[i] == symbol(":"+p.name) {
					x, given = args[i+1], true
				}
			}
		default:
			if given = len(args) > 0; given {
				x, args = args[0], args[1:]
			}
		}
		if !given {
			var w *way
			if x, w = m.single(p.init, s); w != nil {
				return nil, w
			}
		}
		take(p.name, x)
		if p.hasTells {
			take(p.tells, one(truth(given)))
		}
	}
	inner := func(s *meant) ([]any, *way) {
		s = s.specially(special)
		if f.block == "" {
			return m.progn(body, s)
		}
		return m.block(f.block, s, func(s *meant) ([]any, *way) { return m.progn(body, s) })
	}
	return m.bind(bound, with, func() ([]any, *way) { return m.oneByOne(aux, inits, special, s.specially(mine), inner) })
}

// accepts reports whether a function takes these arguments.
func accepts(f *function, args []any) bool {
	least, most, keys := 0, 0, map[any]bool{}
	any := false
	for _, p := range f.params {
		switch p.kind {
		case "":
			least++
			most++
		case "&optional":
			most++
		case "&rest":
			any = true
		case "&key":
			keys[symbol(":"+p.name)] = true
		}
	}
	if len(args) < least || len(args) > most && !any && len(keys) == 0 {
		return false
	}
	if len(keys) == 0 {
		return true
	}
	left := args[min(most, len(args)):]
	if len(left)%2 > 0 {
		return false
	}
	known, allowed, met := true, false, false
	for i := 0; i < len(left); i += 2 {
		if left[i] == nil {
			known = false
			continue
		}
		if _, ok := left[i].(symbol); !ok {
			return false
		}
		if left[i] == symbol(":allow-other-keys") {
			if !met {
				allowed = left[i+1] != nil
			}
			met = true
		} else if !keys[left[i]] {
			known = false
		}
	}
	return known || allowed
}

func (m *model) builtin(name string, args []any) ([]any, *way) {
	counts := map[string]int{"car": 1, "cdr": 1, "princ": 1, "null": 1, "boundp": 1, "cons": 2, "eq": 2}
	if n, fixed := counts[name]; fixed && n != len(args) {
		return m.fault("PROGRAM-ERROR %s", name)
	}
	switch name {
	case "list":
		return []any{listOf(args)}, nil
	case "values":
		return args, nil
	case "cons":
		return []any{&pair{args[0], args[1]}}, nil
	case "car", "cdr":
		p, ok := args[0].(*pair)
		switch {
		case args[0] == nil:
			return []any{nil}, nil
		case !ok:
			return m.fault("TYPE-ERROR %s list", text(args[0]))
		case name == "car":
			return []any{p.car}, nil
		}
		return []any{p.cdr}, nil
	case "princ":
		// without escapes: no packages
		m.output.WriteString(strings.NewReplacer("%", "", ":", "").Replace(text(args[0])))
		return args, nil
	case "null":
		return truth(args[0] == nil), nil
	case "eq":
		return truth(args[0] == args[1]), nil
	case "boundp":
		_, ok := m.specials[text(args[0])]
		return truth(ok), nil
	case "+":
		sum := 0
		for _, x := range args {
			n, ok := x.(int)
			if !ok {
				return m.fault("TYPE-ERROR %s number", text(x))
			}
			sum += n
		}
		return []any{sum}, nil
	case "funcall":
		if len(args) == 0 {
			return m.fault("PROGRAM-ERROR funcall")
		}
		return m.call(args[0], args[1:])
	}
	return m.fault("UNDEFINED-FUNCTION %s", name)
}

func truth(b bool) []any {
	if b {
		return []any{symbol("t")}
	}
	return []any{nil}
}

// run evaluates a form, and returns the text of its end; "" if that takes too long.
func (m *model) run(f api.Form) (end string) {
	defer func() {
		if x := recover(); x != nil {
			if _, ok := x.(tooLong); !ok {
				panic(x)
			}
		}
	}()
	l, w := m.eval(f, nil)
	if w != nil {
		return "! " + w.fault
	}
	return strings.TrimSpace("= " + texts(l))
}

// writer writes random programs that have no error of their own.
type writer struct {
	r *rand.Rand
	n int
}

// scope is what a random form may name.
type scope struct{ vars, functions, blocks, tags []string }

func (s scope) with(sort byte, names ...string) scope {
	to := map[byte]*[]string{'v': &s.vars, 'f': &s.functions, 'b': &s.blocks, 't': &s.tags}[sort]
	*to = append(slices.Clone(*to), names...)
	return s
}

func (p *writer) pick(l ...string) string { return l[p.r.Intn(len(l))] }

// name returns a name that may hide another one.
func (p *writer) name(prefix string) string { return fmt.Sprint(prefix, p.r.Intn(4)) }

func (p *writer) some(s scope, depth, most int) string {
	var l []string
	for range p.r.Intn(most + 1) {
		l = append(l, p.form(s, depth))
	}
	return strings.Join(l, " ")
}

// form writes a form.
func (p *writer) form(s scope, depth int) string {
	if depth <= 0 || p.r.Intn(8) == 0 {
		if len(s.vars) > 0 && p.r.Intn(2) == 0 {
			return p.pick(s.vars...)
		}
		return p.pick("1", "2", "nil", "t", ":v0", ":v1", "g0", "g1", "'(1 2)")
	}
	sub := func() string { return p.form(s, depth-1) }
	switch p.r.Intn(24) {
	case 0:
		return "(if " + sub() + " " + sub() + " " + sub() + ")"
	case 1:
		return "(progn " + p.some(s, depth-1, 3) + ")"
	case 2, 3:
		return p.let(s, depth)
	case 4:
		if len(s.vars) > 0 && p.r.Intn(3) > 0 {
			return "(setq " + p.pick(s.vars...) + " " + sub() + ")"
		}
		return "(setq " + p.pick("g0", "g1") + " " + sub() + ")"
	case 5, 6:
		b := p.name("b")
		return "(block " + b + " " + p.some(s.with('b', b), depth-1, 3) + ")"
	case 7, 8:
		if len(s.blocks) > 0 {
			return "(return-from " + p.pick(s.blocks...) + " " + sub() + ")"
		}
	case 9:
		return p.tagbody(s, depth)
	case 10:
		if len(s.tags) > 0 {
			return "(go " + p.pick(s.tags...) + ")"
		}
	case 11:
		return "(catch " + p.pick("1", ":v0", sub()) + " " + p.some(s, depth-1, 2) + ")"
	case 12:
		return "(throw " + p.pick("1", ":v0") + " " + sub() + ")"
	case 13:
		return "(unwind-protect " + sub() + " (princ " + sub() + ") " + p.some(s, depth-1, 1) + ")"
	case 14:
		return "(multiple-value-call " + p.pick("(function list)", sub()) + " " + p.some(s, depth-1, 3) + ")"
	case 15:
		return "(multiple-value-prog1 " + sub() + " " + p.some(s, depth-1, 2) + ")"
	case 16:
		return "(progv '(" + p.pick("g0", "g0 g1", "") + ") " + p.pick("(list "+p.some(s, depth-1, 3)+")", sub()) + " " + p.some(s, depth-1, 2) + ")"
	case 17, 18:
		return p.locals(s, depth)
	case 19:
		return "(function (lambda " + p.lambda(s, depth) + "))"
	case 20, 21:
		if len(s.functions) > 0 {
			f := p.pick(s.functions...)
			return p.pick("("+f+" "+p.some(s, depth-1, 3)+")", "(function "+f+")", "(funcall (function "+f+") "+p.some(s, depth-1, 3)+")")
		}
		return "(funcall " + sub() + " " + p.some(s, depth-1, 3) + ")"
	}
	return "(" + p.pick("list", "values", "cons", "car", "cdr", "princ", "null", "+", "eq", "funcall", "values") + " " + p.some(s, depth-1, 3) + ")"
}

func (p *writer) let(s scope, depth int) string {
	kind := p.pick("let", "let*")
	var bindings, names []string
	inits := s
	for range p.r.Intn(3) {
		v := p.pick("v0", "v1", "v2", "g0")
		if slices.Contains(names, v) && kind == "let" {
			continue
		}
		bindings = append(bindings, "("+v+" "+p.form(inits, depth-1)+")")
		names = append(names, v)
		if kind == "let*" {
			inits = inits.with('v', v)
		}
	}
	if len(names) == 0 {
		return p.form(s, depth-1)
	}
	return "(" + kind + " (" + strings.Join(bindings, " ") + ") " + p.body(s.with('v', names...), names, depth) + ")"
}

// body writes a body in which g0, and others now and then, are special.
func (p *writer) body(s scope, names []string, depth int) string {
	declared := ""
	for _, v := range append(names, "v3") {
		if v == "g0" || p.r.Intn(6) == 0 {
			declared += " " + v
		}
	}
	if declared != "" {
		declared = "(declare (special" + declared + ")) "
	}
	return declared + p.some(s, depth-1, 3)
}

func (p *writer) tagbody(s scope, depth int) string {
	a, b := "t"+fmt.Sprint(p.n), "u"+p.name("")
	p.n++
	inner := s.with('t', a, b)
	return "(tagbody " + p.parts(inner, depth) + " " + a + " " + p.parts(inner, depth) + " " + b + " " + p.parts(inner, depth) + ")"
}

// parts writes forms that are no tags.
func (p *writer) parts(s scope, depth int) string {
	return "(princ " + p.form(s, depth-1) + ") (progn " + p.some(s, depth-1, 2) + ")"
}

// lambda writes the list and the body of a function; blocks are around the body alone.
func (p *writer) lambda(s scope, depth int, blocks ...string) string {
	var names []string
	fresh := func() string {
		p.n++
		v := p.pick("v0", "v1", "v2", "g0")
		if slices.Contains(names, v) {
			v = fmt.Sprint("w", p.n)
		}
		names = append(names, v)
		return v
	}
	list := ""
	for range p.r.Intn(3) {
		list += " " + fresh()
	}
	for _, kind := range []string{"&optional", "&rest", "&key"} {
		if p.r.Intn(3) > 0 {
			continue
		}
		list += " " + kind
		if kind == "&rest" {
			list += " " + fresh()
			continue
		}
		for range 1 + p.r.Intn(2) {
			if p.r.Intn(2) == 0 {
				list += " " + fresh()
			} else {
				init := p.form(s.with('v', names...), depth-2)
				list += " (" + fresh() + " " + init + " " + fresh() + ")"
			}
		}
	}
	if p.r.Intn(4) == 0 {
		list += " &aux"
		for range 1 + p.r.Intn(2) {
			init := p.form(s.with('v', names...), depth-2)
			list += " (" + fresh() + " " + init + ")"
		}
	}
	return "(" + list + ") " + p.body(s.with('v', names...).with('b', blocks...), names, depth)
}

func (p *writer) locals(s scope, depth int) string {
	f, g := p.name("f"), "g"+fmt.Sprint(p.n)+"f"
	p.n++
	inner := s.with('f', f, g)
	inside, kind := s, "flet"
	if p.r.Intn(2) == 0 {
		inside, kind = inner, "labels"
	}
	define := func(name string) string {
		return "(" + name + " " + p.lambda(inside, depth-1, name) + ")"
	}
	return "(" + kind + " (" + define(f) + " " + define(g) + ") (" + f + " " + p.some(inner, depth-1, 2) + ") " + p.some(inner, depth-1, 2) + ")"
}

// P21.1, P21.3: random programs have the output, the end and the values of special variables that the model tells.
func TestModel(t *testing.T) {
	r := rand.New(rand.NewSource(21))
	ended, faults, values, tried := 0, 0, 0, 0
	for range 3000 {
		p := writer{r: r}
		source := "(progn (princ 0) " + p.form(scope{}, 3+r.Intn(4)) + ")"
		if len(source) > api.MaxSource {
			continue
		}
		f := form(t, source)
		c, e := core.Convert(f, nil)
		if e != api.OK {
			t.Fatalf("%s: %v", source, e)
		}
		tried++
		m := &model{specials: map[string]any{}, left: 3000}
		want := m.run(f)
		if want == "" {
			continue
		}
		w := newWorld(t)
		end, _ := meaning.Run(w, c, api.MaxSteps)
		if end.Kind == lib.EndLimit || strings.Contains(w.Output(), "#") { // the model tells nothing of sharing
			continue
		}
		ended++
		if want[0] == '!' {
			faults++
		} else {
			values++
		}
		if got := ending(w, end); got != want || w.Output() != m.output.String() {
			t.Errorf("%s: %s, printed %s; want %s, %s", source, got, w.Output(), want, m.output.String())
		}
		for _, name := range []string{"G0", "G1", "V0", "V3"} {
			s, _ := w.Symbol("COMMON-LISP-USER", name)
			x, _ := w.Value(s)
			y, ok := m.specials[strings.ToLower(name)]
			want := "%::unbound"
			if ok {
				want = text(y)
			}
			equal(t, source+": "+name, shown(w, []heap.Word{x}), want)
		}
	}
	if faults < 300 || values < 700 {
		t.Errorf("of %d programs %d ended, %d with faults, %d with values", tried, ended, faults, values)
	}
}
