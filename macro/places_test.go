package macro_test

import (
	"fmt"
	"math/rand"
	"strings"
	"testing"
)

// aPlace is a place of a program: its text, and how the model reads its subforms (which are printed), its value, and writes it.
type aPlace struct {
	text  string
	trace string
	get   func(*state) int
	set   func(*state, int)
}

// state is what the places are in: two variables, a list and a vector.
type state struct {
	vars   [2]int
	list   [4]int
	vector [4]int
}

func (s state) String() string {
	words := func(l [4]int) string { return strings.Trim(fmt.Sprint(l), "[]") }
	return fmt.Sprintf("(%d %d (%s) (%s))", s.vars[0], s.vars[1], words(s.list), words(s.vector))
}

// places makes random places, whose subforms print different numbers.
type places struct {
	r      *rand.Rand
	traced int
}

// traced returns the text of a form that prints a number when it is evaluated, and this number.
func (p *places) sub(form string) (string, string) {
	p.traced++
	return fmt.Sprintf("(s %d %s)", p.traced, form), fmt.Sprintf("%d ", p.traced)
}

func (p *places) place() aPlace {
	i := p.r.Intn(4)
	inList := aPlace{get: func(s *state) int { return s.list[i] }, set: func(s *state, x int) { s.list[i] = x }}
	inVector := aPlace{get: func(s *state) int { return s.vector[i] }, set: func(s *state, x int) { s.vector[i] = x }}
	switch p.r.Intn(7) {
	case 0, 1:
		n, list := fmt.Sprint(i), ""
		if p.r.Intn(2) == 0 {
			n, inList.trace = p.sub(n)
		}
		list, trace := p.sub("l")
		inList.text, inList.trace = "(nth "+n+" "+list+")", inList.trace+trace
		return inList
	case 2:
		name := []string{"car", "cadr", "third", "car"}[i]
		list, trace := p.sub("l")
		if i == 3 {
			list = "(cdr (cdr (cdr " + list + ")))"
		}
		inList.text, inList.trace = "("+name+" "+list+")", trace
		return inList
	case 3, 4:
		vector, ahead := p.sub("v")
		n, behind := p.sub(fmt.Sprint(i))
		inVector.text, inVector.trace = "(aref "+vector+" "+n+")", ahead+behind
		if p.r.Intn(2) == 0 {
			inVector.text = "(the integer " + inVector.text + ")"
		}
		return inVector
	case 5:
		n, trace := p.sub(fmt.Sprint(i))
		inVector.text, inVector.trace = "(cell "+n+")", trace // with a function (SETF CELL)
		return inVector
	}
	i = p.r.Intn(2)
	return aPlace{text: []string{"a", "b"}[i], get: func(s *state) int { return s.vars[i] }, set: func(s *state, x int) { s.vars[i] = x }}
}

// value returns a form with a number.
func (p *places) value() (text, trace string, n int) {
	n = p.r.Intn(90) + 10
	text, trace = p.sub(fmt.Sprint(n))
	return text, trace, n
}

// program returns the text of a form that writes places, what it prints, and its value; it changes the state likewise.
func (p *places) program(s *state) (text, trace, value string) {
	all := func(n int) []aPlace {
		var l []aPlace
		for range n {
			l = append(l, p.place())
		}
		return l
	}
	switch p.r.Intn(6) {
	case 0:
		return p.setf(s)
	case 1:
		return p.psetf(s)
	case 2:
		name, sign := "incf", 1
		if p.r.Intn(2) == 0 {
			name, sign = "decf", -1
		}
		x := p.place()
		by, traced, n := p.value()
		if p.r.Intn(2) == 0 {
			by, traced, n = "", "", 1
		}
		x.set(s, x.get(s)+sign*n)
		return "(" + name + " " + x.text + " " + by + ")", x.trace + traced, fmt.Sprint(x.get(s))
	case 3:
		l := all(1 + p.r.Intn(3))
		return p.rotated("rotatef", l, "", "nil", s, l[0].get(s))
	case 4:
		l := all(1 + p.r.Intn(3))
		first := l[0].get(s)
		last, traced, n := p.value()
		text, trace, value := p.rotated("shiftf", l, last, fmt.Sprint(first), s, n)
		return text, trace + traced, value
	}
	q, r := p.place(), p.place()
	q.set(s, 7) // the places are written one behind the other
	r.set(s, 8)
	return "(multiple-value-list (setf (values " + q.text + " " + r.text + ") (values 7 8 9)))", q.trace + r.trace, "(7 8)"
}

// setf sets one place behind the other.
func (p *places) setf(s *state) (text, trace, value string) {
	for range 1 + p.r.Intn(3) {
		x := p.place()
		v, traced, n := p.value()
		text, trace, value = text+" "+x.text+" "+v, trace+x.trace+traced, fmt.Sprint(n)
		x.set(s, n)
	}
	return "(setf" + text + ")", trace, value
}

// psetf sets places when all is evaluated.
func (p *places) psetf(s *state) (text, trace, value string) {
	after := *s
	for range 1 + p.r.Intn(3) {
		x := p.place()
		other := p.r.Intn(2)
		v, traced := p.sub([]string{"a", "b"}[other])
		text, trace = text+" "+x.text+" "+v, trace+x.trace+traced
		x.set(&after, s.vars[other])
	}
	*s = after
	return "(psetf" + text + ")", trace, "nil"
}

// rotated gives each place what the next one had.
func (p *places) rotated(name string, l []aPlace, behind, value string, s *state, last int) (text, trace, result string) {
	var values []int
	for _, x := range l {
		text, trace = text+" "+x.text, trace+x.trace
		values = append(values, x.get(s))
	}
	for i, x := range l {
		next := last
		if i+1 < len(l) {
			next = values[i+1]
		}
		x.set(s, next)
	}
	return "(" + name + text + " " + behind + ")", trace, value
}

// P13, P23.2: subforms of places are evaluated once and in order, and what is written is there.
func TestPlaces(t *testing.T) {
	r := rand.New(rand.NewSource(13))
	var s *session
	for round := range 2000 {
		if round%50 == 0 {
			s = newSession(t)
			s.run("(defun s (k x) (princ k) (princ \" \") x) (defvar *v*) (defun cell (i) (aref *v* i)) (defun (setf cell) (x i) (%aset *v* i x))")
		}
		p := &places{r: r}
		now := state{vars: [2]int{1, 2}, list: [4]int{3, 4, 5, 6}, vector: [4]int{7, 8, 9, 0}}
		text, trace, value := p.program(&now)
		before := len(s.w.Output())
		got := s.run("(let ((a 1) (b 2) (l (list 3 4 5 6)) (v (vector 7 8 9 0))) (set '*v* v) (let ((value " + text + ")) (list value (list a b l (list (aref v 0) (aref v 1) (aref v 2) (aref v 3))))))")
		if want := "= (" + value + " " + now.String() + ")"; got != want {
			t.Errorf("%s: %s; want %s", text, got, want)
		}
		if printed := s.w.Output()[before:]; printed != trace {
			t.Errorf("%s prints %s; want %s", text, printed, trace)
		}
	}
}

// P23.2: PUSH, PUSHNEW and POP.
func TestLists(t *testing.T) {
	s := newSession(t)
	s.run("(defun s (k x) (princ k) (princ \" \") x)")
	for _, c := range [][3]string{
		{"(let ((l (list 1 2))) (list (push (s 1 0) l) l))", "= ((0 1 2) (0 1 2))", "1 "},
		{"(let ((x (list (list 1) 2))) (list (push (s 1 0) (car (s 2 x))) x))", "= ((0 1) ((0 1) 2))", "1 2 "},
		{"(let ((x (list (list 1) 2))) (list (pushnew (s 1 1) (car (s 2 x))) (pushnew (s 3 2) (car (s 4 x))) x))", "= ((1) (2 1) ((2 1) 2))", "1 2 3 4 "},
		{"(let ((x (list (list 1 3) 2))) (list (pop (car (s 1 x))) x (pop (car x)) (pop (car x)) x))", "= (1 (nil 2) 3 nil (nil 2))", "1 "},
		{"(let ((h (make-hash-table 'eql))) (push 1 (gethash (s 1 'k) (s 2 h))) (push 2 (gethash 'k h)) (list (gethash 'k h) (gethash 'n h)))", "= ((2 1) nil)", "1 2 "},
		{"(progn (setf (symbol-value 'q) 5 (fdefinition 'r) #'car) (incf (symbol-value 'q)) (list q (r '(7))))", "= (6 7)", ""},
	} {
		before := len(s.w.Output())
		if got := s.run(c[0]); got != c[1] {
			t.Errorf("%s: %s; want %s", c[0], got, c[1])
		}
		if printed := s.w.Output()[before:]; printed != c[2] {
			t.Errorf("%s prints %s; want %s", c[0], printed, c[2])
		}
	}
}
