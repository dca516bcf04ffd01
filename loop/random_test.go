package loop_test

import (
	"fmt"
	"math/rand"
	"slices"
	"strconv"
	"testing"

	"commonform/api"
	"commonform/forms"
	"commonform/loop"
	"commonform/place"
)

// writer writes random clauses and the elements that say them; their forms are (S 0), (S 1) and so on in their order.
type writer struct {
	r        *rand.Rand
	homes    []string // of words
	elements []api.Form
	parts    int
}

func (w *writer) word(name string) {
	w.elements = append(w.elements, forms.Symbol(w.homes[w.r.Intn(len(w.homes))], name))
}

// add adds elements, which it returns.
func (w *writer) add(l ...api.Form) []api.Form {
	w.elements = append(w.elements, l...)
	return l
}

func (w *writer) one() api.Form {
	w.parts++
	return forms.Call("S", []api.Form{{Kind: api.FormInt, Text: strconv.Itoa(w.parts - 1)}})
}

func (w *writer) some() []api.Form {
	l := []api.Form{w.one()}
	for w.r.Intn(3) == 0 {
		l = append(l, w.one())
	}
	return w.add(l...)
}

func (w *writer) variable() api.Form {
	return w.add(forms.Symbol("U", "V"+strconv.Itoa(w.r.Intn(3))))[0]
}

func (w *writer) pick(l ...string) string { return l[w.r.Intn(len(l))] }

// head returns a clause that may stand in front.
func (w *writer) head() loop.Clause {
	switch w.r.Intn(8) {
	case 0:
		w.word("WITH")
		c := loop.Clause{Kind: loop.With, Var: w.variable(), Forms: []api.Form{forms.Nil()}}
		if w.r.Intn(2) == 0 {
			w.word("=")
			c.Forms = w.add(w.one())
		}
		return c
	case 1:
		return w.many(loop.Initially, "INITIALLY")
	case 2:
		return w.many(loop.Finally, "FINALLY")
	case 3:
		return w.single(loop.Repeat, "REPEAT")
	}
	w.word(w.pick("FOR", "AS"))
	c := loop.Clause{Var: w.variable()}
	switch w.r.Intn(5) {
	case 0:
		return w.pair(c, loop.In, "IN", "BY")
	case 1:
		return w.pair(c, loop.On, "ON", "BY")
	case 2:
		return w.pair(c, loop.Equals, "=", "THEN")
	case 3:
		w.word("ACROSS")
		c.Kind = loop.Across
		c.Forms = w.add(w.one())
		return c
	}
	return w.numbers(c)
}

func (w *writer) many(kind int, word string) loop.Clause {
	w.word(word)
	return loop.Clause{Kind: kind, Forms: w.some()}
}

func (w *writer) single(kind int, word string) loop.Clause {
	w.word(word)
	return loop.Clause{Kind: kind, Forms: w.add(w.one())}
}

func (w *writer) pair(c loop.Clause, kind int, word, other string) loop.Clause {
	w.word(word)
	c.Kind = kind
	c.Forms = w.add(w.one())
	if w.r.Intn(2) == 0 {
		w.word(other)
		c.Forms = append(c.Forms, w.add(w.one())...)
	}
	return c
}

// numbers writes first, limit and step in any order.
func (w *writer) numbers(c loop.Clause) loop.Clause {
	c.Kind = loop.Arithmetic
	zero, one := api.Form{Kind: api.FormInt, Text: "0"}, api.Form{Kind: api.FormInt, Text: "1"}
	c.Forms = []api.Form{zero, forms.Nil(), one, {}}
	down := w.r.Intn(2) == 0
	words := [3]string{w.pick("FROM", "UPFROM", ""), w.pick("TO", "UPTO", "BELOW", ""), w.pick("BY", "")}
	if down {
		words = [3]string{w.pick("FROM", "DOWNFROM"), w.pick("TO", "DOWNTO", "ABOVE", ""), w.pick("BY", "")}
		if words[0] == "FROM" {
			words[1] = w.pick("DOWNTO", "ABOVE")
		}
	}
	if words == [3]string{} {
		words[2] = "BY"
	}
	for _, part := range w.r.Perm(3) {
		if words[part] != "" {
			w.word(words[part])
			c.Forms[part] = w.add(w.one())[0]
		}
	}
	way := 0
	if down {
		way = 2
	}
	if words[1] == "BELOW" || words[1] == "ABOVE" {
		way++
	}
	c.Forms[3] = api.Form{Kind: api.FormInt, Text: strconv.Itoa(way)}
	return c
}

// body returns a clause that may stand behind; the results are lists.
func (w *writer) body(depth int) loop.Clause {
	switch w.r.Intn(9) {
	case 0:
		return w.single(loop.While, "WHILE")
	case 1:
		return w.single(loop.Until, "UNTIL")
	case 2:
		return w.many(loop.Finally, "FINALLY")
	}
	return w.selectable(depth)
}

func (w *writer) selectable(depth int) loop.Clause {
	switch n := w.r.Intn(8); {
	case n == 0:
		return w.many(loop.Do, w.pick("DO", "DOING"))
	case n == 1:
		return w.single(loop.Return, "RETURN")
	case n == 2:
		return w.into(w.single(loop.Append, w.pick("APPEND", "APPENDING")), "L")
	case n == 3:
		return w.into(w.single(loop.Count, w.pick("COUNT", "COUNTING")), "N")
	case n == 4:
		return w.into(w.single(loop.Minimize, w.pick("MINIMIZE", "MINIMIZING")), "M")
	case n > 5 && depth > 0:
		return w.choice(depth - 1)
	}
	return w.into(w.single(loop.Collect, w.pick("COLLECT", "COLLECTING")), "")
}

// into names a variable, if it has a name.
func (w *writer) into(c loop.Clause, name string) loop.Clause {
	c.Var = forms.Nil()
	if name != "" {
		w.word("INTO")
		c.Var = w.add(forms.Symbol("U", name))[0]
	}
	return c
}

func (w *writer) choice(depth int) loop.Clause {
	kind, word := loop.If, w.pick("IF", "WHEN")
	if w.r.Intn(2) == 0 {
		kind, word = loop.Unless, "UNLESS"
	}
	c := w.single(kind, word)
	c.Then = w.selectables(depth)
	if w.r.Intn(2) == 0 {
		w.word("ELSE")
		c.Else = w.selectables(depth)
	}
	w.word("END") // or what follows might belong to it
	return c
}

func (w *writer) selectables(depth int) []loop.Clause {
	l := []loop.Clause{w.selectable(depth)}
	for w.r.Intn(3) == 0 {
		w.word("AND")
		l = append(l, w.selectable(depth))
	}
	return l
}

// clauses returns clauses, with what says them in elements.
func (w *writer) clauses() []loop.Clause {
	var l []loop.Clause
	if w.r.Intn(3) == 0 {
		w.word("NAMED")
		l = append(l, loop.Clause{Kind: loop.Named, Var: w.variable()})
	}
	for range w.r.Intn(4) {
		l = append(l, w.head())
	}
	for range w.r.Intn(5) {
		l = append(l, w.body(2))
	}
	if len(l) == 0 {
		l = append(l, w.single(loop.While, "WHILE"))
	}
	return l
}

// P24.2: random clauses are read as they are, whatever the homes of the words.
func TestReadBack(t *testing.T) {
	r := rand.New(rand.NewSource(24))
	for range 5000 {
		w := &writer{r: r, homes: []string{"COMMON-LISP", "KEYWORD", "U", ""}}
		l := w.clauses()
		f := forms.Call("LOOP", w.elements)
		got, e := loop.Parse(f)
		if e != api.OK || fmt.Sprint(got) != fmt.Sprint(l) {
			t.Fatalf("%s: %s, %v; want %s", text(f), said(got), e, said(l))
		}
		fails(t, text(f), loop.Check(got), api.OK)
	}
}

// occurring returns the numbers of forms, and of fresh symbols, in the order in which they stand in a form.
func occurring(f api.Form) (parts, fresh []int) {
	if f.Home == "%" {
		n, _ := strconv.Atoi(f.Text)
		return nil, []int{n}
	}
	if f.Kind == api.FormCons && forms.Is(f.Kids[0], "COMMON-LISP", "S") {
		n, _ := strconv.Atoi(f.Kids[1].Text)
		return []int{n}, nil
	}
	for _, kid := range f.Kids {
		p, v := occurring(kid)
		parts, fresh = append(parts, p...), append(fresh, v...)
	}
	return parts, fresh
}

func sorted(l []int) []int { return slices.Sorted(slices.Values(l)) }

// P24.3, P24.4: each form stands once; new symbols are different, and nothing depends on their numbers; what clauses put into the body stands in their order.
func TestRandomExpansions(t *testing.T) {
	r := rand.New(rand.NewSource(243))
	for range 5000 {
		w := &writer{r: r, homes: []string{"COMMON-LISP"}}
		l := w.clauses()
		got, next, e := loop.Expand(l, 10)
		if e != api.OK {
			t.Fatalf("%s: %v", said(l), e)
		}
		parts, fresh := occurring(got)
		for i, n := range sorted(parts) {
			if n != i || len(parts) != w.parts {
				t.Fatalf("%s: %s has the forms %v", said(l), text(got), parts)
			}
		}
		for i, n := range slices.Compact(sorted(fresh)) {
			if n != 10+i || n >= next {
				t.Errorf("%s: the symbols %v; %d is next", said(l), fresh, next)
			}
		}
		by := 4990
		shifted := renamed(got, func(s api.Form) api.Form {
			if n, err := strconv.Atoi(s.Text); s.Home == "%" && err == nil {
				return place.Fresh(n + by)
			}
			return s
		})
		other, after, e := loop.Expand(l, 10+by)
		if e != api.OK || after != next+by || !forms.Equal(other, shifted) {
			t.Errorf("%s from 5000 on: %s, %d, %v", said(l), text(other), after, e)
		}
		ordered(t, l, got)
	}
}

// ordered looks whether the forms of each place of an expansion stand in the order of the clauses.
func ordered(t *testing.T, l []loop.Clause, expansion api.Form) {
	t.Helper()
	let, _ := forms.Items(expansion.Kids[2])
	steps, _ := forms.Items(let[2])
	cut := slices.IndexFunc(steps, func(f api.Form) bool { return f.Home == "%" })
	end := len(steps) - 1
	for steps[end].Home != "%" {
		end--
	}
	var want [4][]int // bindings, ahead, body, behind
	collect := func(at int, f ...api.Form) {
		parts, _ := occurring(forms.List(f))
		want[at] = append(want[at], parts...)
	}
	var body func(c loop.Clause)
	body = func(c loop.Clause) {
		collect(2, c.Forms...)
		parts := [][]loop.Clause{c.Then, c.Else}
		if c.Kind == loop.Unless {
			slices.Reverse(parts)
		}
		for _, inner := range slices.Concat(parts...) {
			body(inner)
		}
	}
	for _, c := range l {
		switch c.Kind {
		case loop.Initially:
			collect(1, c.Forms...)
		case loop.Finally:
			collect(3, c.Forms...)
		case loop.Equals:
			collect(2, c.Forms...)
		case loop.With, loop.Arithmetic, loop.In, loop.On, loop.Across, loop.Repeat:
			collect(0, c.Forms...)
		default:
			body(c)
		}
	}
	for i, f := range [...][]api.Form{{let[1]}, steps[:cut], steps[cut:end], steps[end:]} {
		if got, _ := occurring(forms.List(f)); !slices.Equal(got, want[i]) {
			t.Errorf("%s: the part %d of %s has %v; want %v", said(l), i, text(expansion), got, want[i])
		}
	}
	if result := let[3:]; len(result) != 1 {
		t.Errorf("%s: the results %v", said(l), result)
	}
}

// R4: results share no memory with arguments.
func TestMemory(t *testing.T) {
	f := form(t, "(loop for x in (l) if (f) collect (g) into v)")
	want := text(f)
	l, _ := loop.Parse(f)
	before := said(l)
	got, _, _ := loop.Expand(l, 0)
	expansion := text(got)
	scratch(got)
	if said(l) != before {
		t.Errorf("clauses that were expanded: %s; want %s", said(l), before)
	}
	again, _, _ := loop.Macro(f, 0)
	if text(again) != expansion {
		t.Errorf("%s; want %s", text(again), expansion)
	}
	scratch(again)
	for _, c := range append(l, l[1].Then...) {
		scratch(c.Var)
		for _, x := range c.Forms {
			scratch(x)
		}
	}
	if text(f) != want {
		t.Errorf("the form is %s", text(f))
	}
}

// scratch overwrites all parts of a form.
func scratch(f api.Form) {
	for i := range f.Kids {
		scratch(f.Kids[i])
		f.Kids[i] = api.Form{Kind: api.FormString, Text: "scratched"}
	}
}
