package format

import (
	"strconv"

	"commonform/api"
	"commonform/forms"
	"commonform/number"
)

// Ways in which a list of directives ends.
const (
	goesOn  = iota
	ends    // by ~^
	endsAll // by ~:^: the iteration, too
)

// action performs a directive, and returns how it ends.
type action func(r *run, d directive, s scene) int

// actions returns what each directive does.
func actions() map[byte]action {
	return map[byte]action{
		'A': (*run).plain, 'S': (*run).escaped, 'C': (*run).character,
		'D': (*run).decimal, 'B': (*run).binary, 'O': (*run).octal, 'X': (*run).hexadecimal, 'R': (*run).radix,
		'F': (*run).fixed, '$': (*run).money, 'P': (*run).plural,
		'%': (*run).repeated, '|': (*run).repeated, '~': (*run).repeated, '&': (*run).fresh, '\n': (*run).newline, 'T': (*run).column,
		'*': (*run).passed, '?': (*run).asked,
		'(': (*run).cased, '[': (*run).condition, '{': (*run).iteration, '<': (*run).justified, '^': (*run).escape,
	}
}

// run performs the directives of a call.
type run struct {
	actions   map[byte]action
	performed int
}

// scene is where a directive is performed.
type scene struct {
	args  *arguments
	lists *arguments // those of the iteration, if it goes through lists
	out   *writer
	asked int // in how many ~? it stands
}

// count counts something that is performed.
func (r *run) count() {
	r.performed++
	if r.performed > maxPerformed {
		fail(api.ErrFull)
	}
}

// perform performs directives one after the other, and returns how they end.
func (r *run) perform(l []directive, s scene) int {
	for _, d := range l {
		if d.char == 0 {
			s.out.put(d.text)
			continue
		}
		r.count()
		if end := r.actions[d.char](r, d, s); end != goesOn {
			return end
		}
	}
	return goesOn
}

// writer has an output, and the column behind it.
type writer struct {
	text   []byte
	column int
}

// put puts out a text.
func (w *writer) put(s string) {
	if len(w.text)+len(s) > api.MaxOutput {
		fail(api.ErrFull)
	}
	w.text = append(w.text, s...)
	for i := range len(s) {
		w.column++
		if s[i] == '\n' {
			w.column = 0
		}
	}
}

// inner returns a writer for what is put out later in some other form.
func (w *writer) inner() *writer { return &writer{column: w.column} }

// arguments are a list from which arguments are taken.
type arguments struct {
	list []api.Form
	next int
}

func (a *arguments) left() int { return len(a.list) - a.next }

// move makes an argument, or the place behind the last one, the next one.
func (a *arguments) move(to int) {
	if to < 0 || to > len(a.list) {
		fail(api.ErrNone)
	}
	a.next = to
}

// take takes the next argument.
func (a *arguments) take() api.Form {
	x := a.peek()
	a.next++
	return x
}

// peek returns the next argument.
func (a *arguments) peek() api.Form {
	if a.left() == 0 {
		fail(api.ErrNone)
	}
	return a.list[a.next]
}

// takeString takes a string.
func (a *arguments) takeString() string {
	x := a.take()
	if x.Kind != api.FormString {
		fail(api.ErrType)
	}
	return x.Text
}

// takeList takes a list of arguments.
func (a *arguments) takeList() *arguments {
	l, ok := forms.Items(a.take())
	if !ok {
		fail(api.ErrType)
	}
	return &arguments{list: l}
}

// want says of what kind a parameter has to be, and in which range a number.
type want struct {
	kind      int // fixed or letter
	low, high int
}

func wantNumber() want { return want{fixed, 0, maxNumber} }

// wantSteps wants a number that is added as often as is needed.
func wantSteps() want { return want{fixed, 1, maxNumber} }

func wantBetween(low, high int) want { return want{fixed, low, high} }

func wantCharacter() want { return want{kind: letter} }

// value is the value of a parameter, if it is not empty.
type value struct {
	given bool
	n     int
}

// or returns the value, or the usual one.
func (v value) or(usual int) int {
	if v.given {
		return v.n
	}
	return usual
}

// pad returns the value, or the usual one, as a text.
func (v value) text(usual byte) string { return string([]byte{byte(v.or(int(usual)))}) }

// values finds the parameters of a directive, from left to right.
func (s scene) values(d directive, wants ...want) []value {
	values := make([]value, len(wants))
	for i, p := range d.params {
		p = s.found(p)
		if p.kind == absent {
			continue
		}
		if p.kind != wants[i].kind {
			fail(api.ErrType)
		}
		if p.kind == fixed && (p.n < wants[i].low || p.n > wants[i].high) {
			fail(api.ErrRange)
		}
		values[i] = value{true, p.n}
	}
	return values
}

// found returns an integer, a character, or an empty parameter.
func (s scene) found(p parameter) parameter {
	switch p.kind {
	case counted:
		return parameter{fixed, s.args.left()}
	case taken:
		return argumentParameter(s.args.take())
	}
	return p
}

// argumentParameter returns the parameter that an argument is.
func argumentParameter(x api.Form) parameter {
	switch {
	case forms.IsNil(x):
		return parameter{}
	case x.Kind == api.FormChar && len(x.Text) == 1:
		return parameter{letter, int(x.Text[0])}
	case x.Kind != api.FormInt || number.Check(x) != api.OK:
		fail(api.ErrType)
	}
	n, failed := strconv.Atoi(x.Text)
	if failed != nil || n < -maxParameter || n > maxParameter {
		fail(api.ErrRange)
	}
	return parameter{fixed, n}
}
