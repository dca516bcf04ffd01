package macro_test

import (
	"fmt"
	"math/rand"
	"slices"
	"strings"
	"testing"
)

// looped is the state of a loop by hand: integers by the names of variables, a result, and what was printed.
type looped struct {
	vars    map[string]any // int, or nil
	hidden  any            // int, []int, or nil
	into    map[string]any
	printed []string
	left    bool
	value   any
	rounds  int
}

// expression is a form with an integer or a list, and what it is by hand.
type expression struct {
	text string
	of   func(*looped) int
}

// clause is a clause with what it does by hand: ahead of the loop, and in each round (false: the loop ends, or is left).
type clause struct {
	text  string
	begin func(*looped)
	round func(*looped) bool
}

// loops makes random loops.
type loops struct {
	r      *rand.Rand
	vars   []string
	begun  []string // variables with integers
	result string   // the sort of the hidden result: lists, sums, best, answers or none
	fails  bool     // whether it has an ALWAYS or a NEVER
	into   map[string]string
}

// number returns an expression with an integer.
func (l *loops) number() expression {
	k := l.r.Intn(9) - 2
	if len(l.begun) == 0 || l.r.Intn(3) == 0 {
		return expression{fmt.Sprint(k), func(*looped) int { return k }}
	}
	v := l.begun[l.r.Intn(len(l.begun))]
	return expression{fmt.Sprintf("(+ %s %d)", v, k), func(s *looped) int { return s.vars[v].(int) + k }}
}

// test returns an expression that is 1 where it is true.
func (l *loops) test() expression {
	a, b := l.number(), l.number()
	return expression{fmt.Sprintf("(< %s %s)", a.text, b.text), func(s *looped) int {
		if a.of(s) < b.of(s) {
			return 1
		}
		return 0
	}}
}

// variable returns a new variable, which has integers from now on.
func (l *loops) variable() string {
	v := fmt.Sprintf("V%d", len(l.begun))
	l.begun = append(l.begun, v)
	return v
}

// head returns a clause that steps a variable; all of them end.
func (l *loops) head(first bool) clause {
	n := 7
	if first {
		n = 5 // such a one ends
	}
	switch l.r.Intn(n) {
	case 0:
		return l.repeat()
	case 1:
		return l.upward()
	case 2:
		return l.downward()
	case 3:
		return l.elements("in", "'(%s)")
	case 4:
		return l.elements("across", "(vector %s)")
	case 5:
		n := l.r.Intn(9)
		v := l.variable()
		return clause{fmt.Sprintf("with %s = %d", v, n), func(s *looped) { s.vars[v] = n }, always}
	}
	x := l.number()
	v := l.variable()
	y := l.number()
	first, text := true, fmt.Sprintf("for %s = %s then %s", v, x.text, y.text)
	return clause{text, func(*looped) { first = true }, func(s *looped) bool {
		if first {
			s.vars[v] = x.of(s)
		} else {
			s.vars[v] = y.of(s)
		}
		first = false
		return true
	}}
}

func always(*looped) bool { return true }

func (l *loops) repeat() clause {
	n, left := l.r.Intn(6), 0
	return clause{fmt.Sprint("repeat ", n), func(*looped) { left = n }, func(*looped) bool { left--; return left >= 0 }}
}

// counted returns what steps a variable by a number.
func counted(v string, from, by int, ends func(n int) bool) (begin func(*looped), round func(*looped) bool) {
	n := 0
	return func(*looped) { n = from }, func(s *looped) bool {
		if ends(n) {
			return false
		}
		s.vars[v] = n
		n += by
		return true
	}
}

func (l *loops) upward() clause {
	v := l.variable()
	from, to, by := l.r.Intn(4), l.r.Intn(12), l.r.Intn(3)+1
	word := []string{"to", "upto", "below"}[l.r.Intn(3)]
	parts := []string{fmt.Sprintf("%s %d", []string{"from", "upfrom"}[l.r.Intn(2)], from), fmt.Sprintf("%s %d", word, to), fmt.Sprintf("by %d", by)}
	l.r.Shuffle(3, func(i, k int) { parts[i], parts[k] = parts[k], parts[i] })
	begin, round := counted(v, from, by, func(n int) bool { return n > to || word == "below" && n == to })
	return clause{"for " + v + " " + strings.Join(parts, " "), begin, round}
}

func (l *loops) downward() clause {
	v := l.variable()
	from, to := l.r.Intn(9), l.r.Intn(4)-2
	word := []string{"downto", "above"}[l.r.Intn(2)]
	begin, round := counted(v, from, -1, func(n int) bool { return n < to || word == "above" && n == to })
	return clause{fmt.Sprintf("as %s from %d %s %d", v, from, word, to), begin, round}
}

// elements returns what steps a variable through some numbers.
func (l *loops) elements(word, form string) clause {
	v := l.variable()
	var numbers []int
	var texts []string
	for range l.r.Intn(6) {
		n := l.r.Intn(20)
		numbers, texts = append(numbers, n), append(texts, fmt.Sprint(n))
	}
	text, step := fmt.Sprintf("for %s %s "+form, v, word, strings.Join(texts, " ")), 1
	if word == "in" && l.r.Intn(3) == 0 {
		text, step = text+" by (lambda (x) (cdr (cdr x)))", 2
	}
	at := 0
	return clause{text, func(*looped) { at = 0 }, func(s *looped) bool {
		if at >= len(numbers) {
			return false
		}
		s.vars[v] = numbers[at]
		at += step
		return true
	}}
}

// body returns a clause behind the variables.
func (l *loops) body(depth int) clause {
	switch l.r.Intn(8) {
	case 0:
		x := l.test()
		return clause{"while " + x.text, nil, func(s *looped) bool { return x.of(s) == 1 }}
	case 1:
		x := l.test()
		return clause{"until " + x.text, nil, func(s *looped) bool { return x.of(s) == 0 }}
	case 2:
		if l.result == "answers" {
			return l.answer()
		}
	case 3:
		return l.repeat()
	}
	return l.selectable(depth)
}

// answer returns ALWAYS, NEVER or THEREIS.
func (l *loops) answer() clause {
	x := l.test()
	leaves := func(word string, at int, value any) clause {
		return clause{word + " " + x.text, nil, func(s *looped) bool {
			if x.of(s) == at {
				s.left, s.value = true, value
			}
			return !s.left
		}}
	}
	if l.fails = true; l.r.Intn(2) == 0 {
		return leaves("always", 0, nil)
	}
	return leaves("never", 1, nil)
}

// selectable returns a clause that may stand behind IF.
func (l *loops) selectable(depth int) clause {
	switch n := l.r.Intn(6); {
	case n == 0:
		x := l.number()
		return clause{fmt.Sprintf("do (princ %s) (princ \" \")", x.text), nil, func(s *looped) bool {
			s.printed = append(s.printed, fmt.Sprint(x.of(s)))
			return true
		}}
	case n == 1 && l.r.Intn(3) == 0:
		x := l.number()
		return clause{"return " + x.text, nil, func(s *looped) bool {
			s.left, s.value = true, x.of(s)
			return false
		}}
	case n == 2 && depth > 0:
		return l.choice(depth - 1)
	}
	return l.gathers()
}

// gathers returns a clause with a result, in the hidden variable or another one.
func (l *loops) gathers() clause {
	sort := l.result
	name := ""
	if sort == "answers" || l.r.Intn(3) == 0 {
		name = []string{"LISTS", "SUMS", "BEST"}[l.r.Intn(3)]
		sort = strings.ToLower(name)
		l.into[name] = sort
	}
	x := l.number()
	word := map[string][]string{"lists": {"collect", "append"}, "sums": {"sum", "count"}, "best": {"maximize", "minimize"}}[sort][l.r.Intn(2)]
	text := word + " " + x.text
	if word == "append" {
		text = "appending (list " + x.text + " 1)"
	}
	if word == "count" {
		x = l.test()
		text = "counting " + x.text
	}
	if name != "" {
		text += " into " + name
	}
	return clause{text, nil, func(s *looped) bool {
		if name == "" {
			s.hidden = gathered(word, s.hidden, x.of(s))
		} else {
			s.into[name] = gathered(word, s.into[name], x.of(s))
		}
		return true
	}}
}

// gathered returns a result with one value more.
func gathered(word string, result any, x int) any {
	switch word {
	case "collect":
		l, _ := result.([]int)
		return append(slices.Clone(l), x)
	case "append":
		l, _ := result.([]int)
		return append(slices.Clone(l), x, 1)
	case "sum", "count":
		n, _ := result.(int)
		return n + x
	}
	n, ok := result.(int)
	switch {
	case !ok:
		return x
	case word == "maximize":
		return max(n, x)
	}
	return min(n, x)
}

func (l *loops) choice(depth int) clause {
	x := l.test()
	word := []string{"if", "when", "unless"}[l.r.Intn(3)]
	several := func() (string, []clause) {
		var texts []string
		var all []clause
		for range 1 + l.r.Intn(2) {
			c := l.selectable(depth)
			texts, all = append(texts, c.text), append(all, c)
		}
		return strings.Join(texts, " and "), all
	}
	text, then := several()
	text = word + " " + x.text + " " + text
	var other []clause
	if l.r.Intn(2) == 0 {
		more, others := several()
		text, other = text+" else "+more, others
	}
	return clause{text + " end", nil, func(s *looped) bool {
		chosen := other
		if (x.of(s) == 1) == (word != "unless") {
			chosen = then
		}
		for _, c := range chosen {
			if !c.round(s) {
				return false
			}
		}
		return true
	}}
}

// byHand runs clauses, and returns the value of the loop.
func (l *loops) byHand(clauses []clause) *looped {
	s := &looped{vars: map[string]any{}, into: map[string]any{}}
	empty := map[string]any{"lists": []int(nil), "sums": 0, "best": nil}
	s.hidden = empty[l.result]
	for name, sort := range l.into {
		s.into[name] = empty[sort]
	}
	for _, c := range clauses {
		if c.begin != nil {
			c.begin(s)
		}
	}
rounds:
	for {
		for _, c := range clauses {
			if !c.round(s) {
				break rounds
			}
		}
	}
	switch {
	case s.left:
	case l.result == "answers" && l.fails:
		s.value = "t"
	default:
		s.value = s.hidden
	}
	return s
}

// lispText returns the text of a value.
func lispText(x any) string {
	switch x := x.(type) {
	case nil:
		return "nil"
	case []int:
		if len(x) == 0 {
			return "nil"
		}
		return "(" + strings.Trim(fmt.Sprint(x), "[]") + ")"
	}
	return fmt.Sprint(x)
}

// P19, P24.4: random loops do what they do by hand.
func TestLoops(t *testing.T) {
	r := rand.New(rand.NewSource(19))
	var s *session
	for round := range 2000 {
		if round%40 == 0 {
			s = newSession(t)
		}
		l := &loops{r: r, into: map[string]string{}, result: []string{"lists", "sums", "best", "answers"}[r.Intn(4)]}
		var clauses []clause
		for i := range 1 + r.Intn(3) {
			clauses = append(clauses, l.head(i == 0))
		}
		for range r.Intn(5) {
			clauses = append(clauses, l.body(2))
		}
		if l.result != "answers" {
			clauses = append(clauses, l.hiddenOnce())
		}
		want := l.byHand(clauses)
		var texts []string
		for _, c := range clauses {
			texts = append(texts, c.text)
		}
		into := ""
		var wanted []string
		for _, name := range []string{"LISTS", "SUMS", "BEST"} {
			if _, ok := l.into[name]; ok {
				into += " (setq out (cons " + name + " out))"
			}
			if _, ok := l.into[name]; ok && !want.left {
				wanted = append(wanted, lispText(want.into[name]))
			}
		}
		wanted = append(wanted, lispText(want.value))
		text := "(loop named here " + strings.Join(texts, " ") + " finally (progn" + into + "))"
		before := len(s.w.Output())
		got := s.run("(let ((out nil)) (let ((value " + text + ")) (apply #'list (append (reverse out) (list value)))))")
		if got != "= ("+strings.Join(wanted, " ")+")" {
			t.Fatalf("%s: %s; want %v", text, got, wanted)
		}
		if printed := strings.Fields(s.w.Output()[before:]); !slices.Equal(printed, want.printed) {
			t.Errorf("%s prints %v; want %v", text, printed, want.printed)
		}
	}
}

// hiddenOnce returns a clause with the hidden result, so that there is one.
func (l *loops) hiddenOnce() clause {
	x := l.number()
	word := map[string]string{"lists": "collect", "sums": "sum", "best": "maximize"}[l.result]
	return clause{word + " " + x.text, nil, func(s *looped) bool {
		s.hidden = gathered(word, s.hidden, x.of(s))
		return true
	}}
}

// P24.1: loops that random ones do not show.
func TestMoreLoops(t *testing.T) {
	for program, want := range map[string]string{
		"(let ((n 0)) (loop (setq n (+ n 1)) (when (= n 3) (return n))))":                                        "= 3",
		"(loop for x on '(1 2 3) collect x)":                                                                     "= ((1 2 3) (2 3) (3))",
		"(loop for x on '(1 2 3 . 4) by #'cdr collect x)":                                                        "= ((1 2 3 . 4) (2 3 . 4) (3 . 4))",
		"(loop for c across \"abc\" for i from 0 collect (list i c))":                                            "= ((0 #\\a) (1 #\\b) (2 #\\c))",
		"(loop for x = 1 do (when (= x 1) (return-from nil 'left)))":                                             "= left",
		"(loop named out do (loop (return-from out 5)))":                                                         "= 5",
		"(loop for x in '(1 2 3) thereis (if (= x 2) (* x 10) nil))":                                             "= 20",
		"(loop for x in '(1 2 3) thereis (= x 5))":                                                               "= nil",
		"(loop initially (princ 1) for x in '(2 3) do (princ x) finally (princ 4) (return-from nil 'done))":      "= done",
		"(loop for x downfrom 3 by 2 while (< -5 x) collect x)":                                                  "= (3 1 -1 -3)",
		"(loop for x from 1 to 3 for y = (* x x) sum y into s count (< y 5) into c finally (return (list s c)))": "= (14 2)",
		"(loop repeat 0 maximize 1)":                                                                             "= nil",
		"(loop for x in '(3 1 2) minimize x)":                                                                    "= 1",
	} {
		if got := newSession(t).run(program); got != want {
			t.Errorf("%s: %s; want %s", program, got, want)
		}
	}
}
