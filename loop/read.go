package loop

import (
	"commonform/api"
	"commonform/forms"
	"commonform/place"
)

// reading reads clauses from the elements that are left. Once something is wrong, it reads nothing more.
type reading struct {
	left  []api.Form
	wrong bool
}

// next returns the word that follows; none, if this is no symbol.
func (r *reading) next() string {
	if r.wrong || len(r.left) == 0 || r.left[0].Kind != api.FormSymbol {
		return ""
	}
	return r.left[0].Text
}

// took takes a word, if it follows.
func (r *reading) took(word string) bool {
	if r.next() != word {
		return false
	}
	r.left = r.left[1:]
	return true
}

// form takes any element.
func (r *reading) form() api.Form {
	if r.wrong || len(r.left) == 0 {
		r.wrong = true
		return api.Form{}
	}
	f := r.left[0]
	r.left = r.left[1:]
	return f
}

// symbol takes a symbol, which is no constant if it is to be a variable.
func (r *reading) symbol(variable bool) api.Form {
	f := r.form()
	if f.Kind != api.FormSymbol || variable && place.Constant(f) {
		r.wrong = true
	}
	return f
}

// lists takes all lists that follow.
func (r *reading) lists() []api.Form {
	var l []api.Form
	for len(r.left) > 0 && r.left[0].Kind == api.FormCons {
		l = append(l, r.form())
	}
	if len(l) == 0 {
		r.wrong = true
	}
	return l
}

// clauses reads all that is left.
func (r *reading) clauses() []Clause {
	words := words()
	var l []Clause
	for len(r.left) > 0 && !r.wrong {
		l = append(l, r.clause(words))
	}
	return l
}

// clause reads the clause that follows.
func (r *reading) clause(words map[string]func(*reading) Clause) Clause {
	read := words[r.next()]
	if read == nil {
		r.wrong = true
		return Clause{}
	}
	r.form()
	return read(r)
}

// words returns what reads the clauses behind their first words.
func words() map[string]func(*reading) Clause {
	l := map[string]func(*reading) Clause{}
	one := func(kind int) func(*reading) Clause {
		return func(r *reading) Clause { return Clause{Kind: kind, Forms: []api.Form{r.form()}} }
	}
	many := func(kind int) func(*reading) Clause {
		return func(r *reading) Clause { return Clause{Kind: kind, Forms: r.lists()} }
	}
	result := func(kind int) func(*reading) Clause {
		return func(r *reading) Clause { return r.result(kind) }
	}
	choice := func(kind int) func(*reading) Clause {
		return func(r *reading) Clause { return r.choice(kind, l) }
	}
	l["NAMED"] = func(r *reading) Clause { return Clause{Kind: Named, Var: r.symbol(false)} }
	l["WITH"] = (*reading).with
	l["FOR"], l["AS"] = (*reading).stepped, (*reading).stepped
	l["INITIALLY"], l["FINALLY"] = many(Initially), many(Finally)
	l["DO"], l["DOING"] = many(Do), many(Do)
	l["REPEAT"], l["WHILE"], l["UNTIL"], l["RETURN"] = one(Repeat), one(While), one(Until), one(Return)
	l["ALWAYS"], l["NEVER"], l["THEREIS"] = one(Always), one(Never), one(Thereis)
	for i, name := range [...]string{"COLLECT", "APPEND", "SUM", "COUNT"} {
		l[name], l[name+"ING"] = result(Collect+i), result(Collect+i)
	}
	l["MAXIMIZE"], l["MAXIMIZING"] = result(Maximize), result(Maximize)
	l["MINIMIZE"], l["MINIMIZING"] = result(Minimize), result(Minimize)
	l["IF"], l["WHEN"], l["UNLESS"] = choice(If), choice(If), choice(Unless)
	return l
}

// with reads (WITH) v [= x].
func (r *reading) with() Clause {
	c := Clause{Kind: With, Var: r.symbol(true), Forms: []api.Form{forms.Nil()}}
	if r.took("=") {
		c.Forms = []api.Form{r.form()}
	}
	return c
}

// result reads (COLLECT) x [INTO v], and the like.
func (r *reading) result(kind int) Clause {
	c := Clause{Kind: kind, Forms: []api.Form{r.form()}, Var: forms.Nil()}
	if r.took("INTO") {
		c.Var = r.symbol(true)
	}
	return c
}

// choice reads (IF) x c [AND c].. [ELSE c [AND c]..] [END].
func (r *reading) choice(kind int, words map[string]func(*reading) Clause) Clause {
	c := Clause{Kind: kind, Forms: []api.Form{r.form()}}
	c.Then = r.selected(words)
	if r.took("ELSE") {
		c.Else = r.selected(words)
	}
	r.took("END")
	return c
}

// selected reads selectable clauses with AND between them.
func (r *reading) selected(words map[string]func(*reading) Clause) []Clause {
	var l []Clause
	for {
		c := r.clause(words)
		if !selectable(c.Kind) {
			r.wrong = true
		}
		l = append(l, c)
		if !r.took("AND") {
			return l
		}
	}
}

func selectable(kind int) bool { return kind >= Do && kind <= Return }

// stepped reads (FOR) v and what says how it is stepped.
func (r *reading) stepped() Clause {
	v := r.symbol(true)
	c := Clause{Var: v}
	switch {
	case r.took("IN"):
		c.Kind = In
		c.Forms = r.pair("BY")
	case r.took("ON"):
		c.Kind = On
		c.Forms = r.pair("BY")
	case r.took("ACROSS"):
		c.Kind = Across
		c.Forms = []api.Form{r.form()}
	case r.took("="):
		c.Kind = Equals
		c.Forms = r.pair("THEN")
	default:
		c.Kind = Arithmetic
		c.Forms = r.numbers()
	}
	return c
}

// pair reads a form, and another one behind a word.
func (r *reading) pair(word string) []api.Form {
	l := []api.Form{r.form()}
	if r.took(word) {
		l = append(l, r.form())
	}
	return l
}

// Parts of a clause of numbers.
const (
	first = iota
	limit
	step
	how
)

// Ways to count; those with an odd number stop ahead of the limit.
const (
	down      = 2
	exclusive = 1
)

// numbers reads from where, to where and by how much a variable goes.
func (r *reading) numbers() []api.Form {
	l := []api.Form{integer("0"), forms.Nil(), integer("1"), {}}
	met := [how]bool{}
	var up, downward, from, ahead bool
	for {
		part := how
		word := r.next()
		switch word {
		case "FROM", "UPFROM", "DOWNFROM":
			part = first
		case "TO", "UPTO", "BELOW", "DOWNTO", "ABOVE":
			part = limit
		case "BY":
			part = step
		}
		if part == how || met[part] {
			break
		}
		met[part] = true
		r.form()
		l[part] = r.form()
		up = up || word == "UPFROM" || word == "UPTO" || word == "BELOW"
		downward = downward || word == "DOWNFROM" || word == "DOWNTO" || word == "ABOVE"
		from = from || word == "FROM" || word == "DOWNFROM"
		ahead = ahead || word == "BELOW" || word == "ABOVE"
	}
	if met == [how]bool{} || downward && (up || !from) {
		r.wrong = true
	}
	l[how] = integer(string(rune('0' + way(downward, ahead))))
	return l
}

// way returns the number that says how a variable goes.
func way(downward, ahead bool) int {
	n := 0
	if downward {
		n += down
	}
	if ahead {
		n += exclusive
	}
	return n
}

func integer(s string) api.Form { return api.Form{Kind: api.FormInt, Text: s} }
