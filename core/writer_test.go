package core_test

import (
	"fmt"
	"math/rand"
	"slices"
	"strings"
)

// writer writes random expanded forms.
type writer struct {
	r *rand.Rand
	n int
}

// scope is what a random form may name.
type scope struct{ vars, functions, blocks, tags []string }

func (s scope) with(sort byte, names ...string) scope {
	to := map[byte]*[]string{'v': &s.vars, 'f': &s.functions, 'b': &s.blocks, 't': &s.tags}[sort]
	*to = append(slices.Clone(*to), names...)
	return s
}

func (p *writer) pick(l ...string) string { return l[p.r.Intn(len(l))] }

func (p *writer) fresh(prefix string) string {
	p.n++
	return fmt.Sprint(prefix, p.n)
}

func (p *writer) some(s scope, depth int) string {
	var l []string
	for range p.r.Intn(4) {
		l = append(l, p.form(s, depth))
	}
	return strings.Join(l, " ")
}

func (p *writer) body(s scope, names []string, depth int) string {
	declared := ""
	for _, v := range append(names, "z") {
		if p.r.Intn(6) == 0 {
			declared += " " + v
		}
	}
	if declared != "" {
		return "(declare (special" + declared + ")) " + p.some(s, depth)
	}
	return p.some(s, depth)
}

func (p *writer) form(s scope, depth int) string {
	if depth <= 0 {
		return p.pick(append(slices.Clone(s.vars), "1", "s0", ":k", "'(a . b)", "x", "\"~ \"")...)
	}
	sub := func() string { return p.form(s, depth-1) }
	switch p.r.Intn(16) {
	case 0:
		return "(if " + sub() + " " + sub() + ")"
	case 1:
		return "(" + p.pick("progn", "locally", "car", "multiple-value-prog1 1", "multiple-value-call #'car", "catch 1", "unwind-protect 2", "progv 1 2") + " " + p.some(s, depth-1) + ")"
	case 2, 3:
		v, w := p.fresh("v"), p.pick("s0", "w")
		return "(" + p.pick("let", "let*") + " ((" + v + " " + sub() + ") (" + w + " " + sub() + ")) " + p.body(s.with('v', v, w), []string{v, w}, depth-1) + ")"
	case 4:
		if len(s.vars) > 0 {
			return "(setq " + p.pick(s.vars...) + " " + sub() + " y " + sub() + ")"
		}
	case 5:
		b := p.fresh("b")
		return "(block " + b + " " + p.some(s.with('b', b), depth-1) + ")"
	case 6:
		if len(s.blocks) > 0 {
			return "(return-from " + p.pick(s.blocks...) + " " + sub() + ")"
		}
	case 7:
		a, b := p.fresh("t"), p.fresh("t")
		inner := s.with('t', a, b)
		return "(tagbody " + a + " (f " + p.form(inner, depth-1) + ") " + b + " (f " + p.form(inner, depth-1) + "))"
	case 8:
		if len(s.tags) > 0 {
			return "(go " + p.pick(s.tags...) + ")"
		}
	case 9, 10:
		f, g := p.fresh("f"), p.fresh("f")
		return "(" + p.pick("flet", "labels") + " ((" + f + " " + p.lambda(s, depth-1) + ") (" + g + " ())) " + p.some(s.with('f', f, g), depth-1) + ")"
	case 11:
		return "#'(lambda " + p.lambda(s, depth-1) + ")"
	case 12:
		return "((lambda " + p.lambda(s, depth-1) + ") " + p.some(s, depth-1) + ")"
	case 13:
		if len(s.functions) > 0 {
			return "(" + p.pick(s.functions...) + " " + sub() + ")"
		}
	}
	return "(f " + p.some(s, depth-1) + ")"
}

func (p *writer) lambda(s scope, depth int) string {
	a, b, c, d, e := p.fresh("v"), p.fresh("v"), p.fresh("v"), p.fresh("v"), p.fresh("v")
	list := "(" + a + " &optional (" + b + " " + p.form(s.with('v', a), depth-1) + " " + c + ") &key ((:k " + d + ") " + p.form(s, depth-1) + ") s0 &aux (" + e + " " + b + "))"
	names := []string{a, b, c, d, e}
	return list + " " + p.body(s.with('v', names...), names, depth-1)
}
