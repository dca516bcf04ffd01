package loop_test

import (
	"fmt"
	"strings"
	"testing"

	"commonform/api"
	"commonform/forms"
	"commonform/loop"
	"commonform/printer"
	"commonform/reader"
)

func fails(t *testing.T, what string, got, want api.Errno) {
	t.Helper()
	if got != want {
		t.Errorf("%s: %v; want %v", what, got, want)
	}
}

// renamed returns a form whose symbols are what a function says.
func renamed(f api.Form, name func(api.Form) api.Form) api.Form {
	if f.Kind == api.FormSymbol {
		return name(f)
	}
	kids := f.Kids
	f.Kids = nil
	for _, kid := range kids {
		f.Kids = append(f.Kids, renamed(kid, name))
	}
	return f
}

// form reads a form whose symbols are those of COMMON-LISP; G0, G1 and so on are the fresh symbols with these numbers.
func form(t *testing.T, text string) api.Form {
	t.Helper()
	r, at, e := reader.One(reader.Standard("COMMON-LISP"), text)
	if e != api.OK {
		t.Fatalf("%s: %v at %d", text, e, at)
	}
	return renamed(r.Form, func(s api.Form) api.Form {
		if digits, ok := strings.CutPrefix(s.Text, "G"); ok && digits != "" && strings.Trim(digits, "0123456789") == "" {
			return forms.Symbol("%", digits)
		}
		return s
	})
}

func text(f api.Form) string {
	f = renamed(f, func(s api.Form) api.Form {
		if s.Home == "%" {
			return forms.Symbol("COMMON-LISP", "G"+s.Text)
		}
		return s
	})
	s, e := printer.Print(printer.Standard("COMMON-LISP"), f)
	if e != api.OK {
		return fmt.Sprint("?", e, f)
	}
	return s
}

// said returns the text of clauses.
func said(l []loop.Clause) string {
	var all []string
	for _, c := range l {
		s := fmt.Sprint(c.Kind)
		if c.Var.Kind != 0 {
			s += " " + text(c.Var)
		}
		s += " " + text(forms.List(c.Forms))
		if len(c.Then) > 0 || len(c.Else) > 0 {
			s += " {" + said(c.Then) + "} {" + said(c.Else) + "}"
		}
		all = append(all, s)
	}
	return strings.Join(all, ", ")
}

func same(t *testing.T, what string, got, want api.Form) {
	t.Helper()
	if !forms.Equal(got, want) {
		t.Errorf("%s: %s; want %s", what, text(got), text(want))
	}
}

// P24.1, P24.2: what the words say.
func TestParse(t *testing.T) {
	for from, want := range map[string]string{
		"named a":                    "1 a nil",
		"named nil":                  "1 nil nil",
		"named :k":                   "1 :k nil",
		"with v":                     "2 v (nil)",
		"with v = x":                 "2 v (x)",
		"with v = (f) with w":        "2 v ((f)), 2 w (nil)",
		"initially (f) (g) repeat 3": "3 ((f) (g)), 10 (3)",
		"finally (f) while x":        "4 ((f)), 11 (x)",
		"do (f) (g) until x":         "16 ((f) (g)), 12 (x)",
		"doing (f)":                  "16 ((f))",
		"for v in l":                 "6 v (l)",
		"for v in l by f":            "6 v (l f)",
		"as v in (l) as w on m":      "6 v ((l)), 7 w (m)",
		"for v on l by #'f":          "7 v (l #'f)",
		"for v across \"abc\"":       "8 v (\"abc\")",
		"for v = 1":                  "9 v (1)",
		"for v = 1 then (f v)":       "9 v (1 (f v))",
		"for v from 1":               "5 v (1 nil 1 0)",
		"for v upfrom 1":             "5 v (1 nil 1 0)",
		"for v downfrom 1":           "5 v (1 nil 1 2)",
		"for v to 5":                 "5 v (0 5 1 0)",
		"for v upto 5":               "5 v (0 5 1 0)",
		"for v below 5":              "5 v (0 5 1 1)",
		"for v by 2":                 "5 v (0 nil 2 0)",
		"for v by 2 below n from m":  "5 v (m n 2 1)",
		"for v from 5 downto 1":      "5 v (5 1 1 2)",
		"for v downto 1 from 5 by k": "5 v (5 1 k 2)",
		"for v downfrom 5 downto 1":  "5 v (5 1 1 2)",
		"for v from 5 above 1":       "5 v (5 1 1 3)",
		"for v downfrom 5 to 1":      "5 v (5 1 1 2)",
		"for v upfrom 5 to 9":        "5 v (5 9 1 0)",
		"for v below nil":            "5 v (0 nil 1 1)",
		"for v from 1 to nil":        "5 v (1 nil 1 0)",
		"repeat n":                   "10 (n)",
		"while x until y":            "11 (x), 12 (y)",
		"always x never y thereis z": "13 (x), 14 (y), 15 (z)",
		"return x":                   "25 (x)",
		"collect x":                  "17 nil (x)",
		"collecting x into v":        "17 v (x)",
		"append x appending y":       "18 nil (x), 18 nil (y)",
		"sum x suming y into z":      "19 nil (x), 19 z (y)",
		"count x counting y":         "20 nil (x), 20 nil (y)",
		"maximize x maximizing y":    "21 nil (x), 21 nil (y)",
		"minimize x minimizing y":    "22 nil (x), 22 nil (y)",
		"if x do (f)":                "23 (x) {16 ((f))} {}",
		"when x return y end":        "23 (x) {25 (y)} {}",
		"unless x collect y":         "24 (x) {17 nil (y)} {}",
		"if x do (f) and sum y and return z else count w and do (g) end while a":        "23 (x) {16 ((f)), 19 nil (y), 25 (z)} {20 nil (w), 16 ((g))}, 11 (a)",
		"if x if y do (f) else do (g) else do (h)":                                      "23 (x) {23 (y) {16 ((f))} {16 ((g))}} {16 ((h))}",
		"if x if y do (f) end else do (h)":                                              "23 (x) {23 (y) {16 ((f))} {}} {16 ((h))}",
		"if x if y do (f) end and do (g) end":                                           "23 (x) {23 (y) {16 ((f))} {}, 16 ((g))} {}",
		"collect into collect do do (f)":                                                "17 nil (into), 17 nil (do), 16 ((f))",
		"u::for v u::in l u::by f :collect #:x #:into w":                                "6 v (l f), 17 w (#:x)",
		"for for in in collect collect":                                                 "6 for (in), 17 nil (collect)",
		"named a with b = 1 initially (f) for c = 2 repeat 3 collect d finally (g) (h)": "1 a nil, 2 b (1), 3 ((f)), 9 c (2), 10 (3), 17 nil (d), 4 ((g) (h))",
	} {
		l, e := loop.Parse(form(t, "(loop "+from+")"))
		fails(t, from, e, api.OK)
		if got := said(l); got != want {
			t.Errorf("%s: %s; want %s", from, got, want)
		}
		if is, e := loop.Simple(form(t, "(loop "+from+")")); is || e != api.OK {
			t.Errorf("%s: %v, %v", from, is, e)
		}
	}
	for _, wrong := range []string{
		"", "(f)", "(f) (g)", "(f) while x", "1", "\"while\" x", "foo x", "x", "while", "named", "named 1", "named (a)", "with", "with 1", "with nil", "with t", "with :v", "with (v)", "with v =", "with v 1", "initially", "initially x", "finally", "finally 1", "do", "do x", "doing nil",
		"for", "for v", "for nil in l", "for :v in l", "for (a b) in l", "for 1 in l", "for v in", "for v in l by", "for v on", "for v across", "for v across x by y", "for v =", "for v = 1 then", "for v = 1 by 2", "for v of l", "for v 1", "for v from", "for v from 1 from 2", "for v from 1 upfrom 2", "for v from 1 to 2 below 3", "for v by 1 by 2", "for v from 1 then 2",
		"for v downto 3", "for v above 3", "for v downto 3 by 1", "for v upfrom 3 downto 1", "for v downfrom 3 upto 1", "for v downfrom 3 below 1", "for v upfrom 3 above 1",
		"repeat", "until", "always", "never", "thereis", "return", "collect", "collect x into", "collect x into 1", "collect x into nil", "collect x into :v", "sum", "maximize", "summing x", "maximizeing x", "collect x by y",
		"if", "if x", "if x y", "if x while y", "if x for v in l", "if x named a", "if x repeat 3", "if x do (f) and", "if x do (f) and while y", "if x do (f) else", "if x do (f) else always y", "if x do (f) end end", "if x do (f) and do (g) and", "unless x else do (f)", "end", "else", "and", "into", "#1=while x", "while x #1=do (f)", "do #1=(f)",
	} {
		l, e := loop.Parse(form(t, "(loop "+wrong+")"))
		fails(t, "(loop "+wrong+")", e, api.ErrForm)
		if l != nil {
			t.Errorf("%s: %v with an error", wrong, l)
		}
	}
}

// P24.1: which forms are simple.
func TestSimple(t *testing.T) {
	for from, want := range map[string]bool{"(loop)": true, "(loop (f))": true, "(loop (f) (g . x))": true, "(loop (f) x)": false, "(loop nil)": false, "(loop #1=(f))": false, "(loop while x)": false} {
		is, e := loop.Simple(form(t, from))
		if is != want || e != api.OK {
			t.Errorf("%s: %v, %v", from, is, e)
		}
	}
	for _, from := range []string{"loop", "(list)", "5", "nil", "(loop . x)", "(loop (f) . x)", "(u::loop (f))", "((loop))"} {
		is, e := loop.Simple(form(t, from))
		fails(t, "Simple of "+from, e, api.ErrForm)
		_, parsed := loop.Parse(form(t, from))
		fails(t, "Parse of "+from, parsed, api.ErrForm)
		_, _, made := loop.Macro(form(t, from), -1)
		fails(t, "Macro of "+from, made, api.ErrForm)
		if is {
			t.Errorf("%s is simple", from)
		}
	}
	for _, wrong := range []api.Form{{}, {Kind: api.FormCons, Kids: make([]api.Form, 2001)}, {Kind: api.FormRef, Text: "1"}} {
		want := forms.Check(wrong)
		_, e := loop.Simple(wrong)
		fails(t, "Simple of a wrong form", e, want)
		_, e = loop.Parse(wrong)
		fails(t, "Parse of a wrong form", e, want)
		_, _, e = loop.Macro(wrong, -1)
		fails(t, "Macro of a wrong form", e, want)
	}
}

// P24.1: expansions of each sort of clause.
func TestMacro(t *testing.T) {
	whole := func(bindings, ahead, body, behind, result string) string {
		return "(block nil (let* (" + bindings + ") (tagbody " + ahead + " g0 " + body + " (go g0) g1 " + behind + ") " + result + "))"
	}
	for _, c := range []struct {
		from, to string
		next     int
	}{
		{"(loop)", "(block nil (tagbody g0 (go g0)))", 1},
		{"(loop (f) (g))", "(block nil (tagbody g0 (f) (g) (go g0)))", 1},
		{"(loop named a do (f))", "(block a (let* () (tagbody g0 (progn (f)) (go g0) g1) nil))", 2},
		{"(loop named a return 5)", "(block a (let* () (tagbody g0 (return-from a 5) (go g0) g1) nil))", 2},
		{"(loop with v with w = x)", whole("(v nil) (w x)", "", "", "", "nil"), 2},
		{"(loop initially (f) (g) finally (h) initially (i) finally (j) (k))", whole("", "(f) (g) (i)", "", "(h) (j) (k)", "nil"), 2},
		{"(loop for x in l)", whole("(g2 l) (x nil)", "", "(if (atom g2) (go g1)) (setq x (car g2)) (setq g2 (cdr g2))", "", "nil"), 3},
		{"(loop for x in l by #'f)", whole("(g2 l) (g3 #'f) (x nil)", "", "(if (atom g2) (go g1)) (setq x (car g2)) (setq g2 (funcall g3 g2))", "", "nil"), 4},
		{"(loop for x on l)", whole("(g2 l) (x nil)", "", "(if (atom g2) (go g1)) (setq x g2) (setq g2 (cdr g2))", "", "nil"), 3},
		{"(loop for x on l by f)", whole("(g2 l) (g3 f) (x nil)", "", "(if (atom g2) (go g1)) (setq x g2) (setq g2 (funcall g3 g2))", "", "nil"), 4},
		{"(loop for x across v)", whole("(g2 v) (g3 0) (g4 (length g2)) (x nil)", "", "(if (< g3 g4) nil (go g1)) (setq x (aref g2 g3)) (setq g3 (+ g3 1))", "", "nil"), 5},
		{"(loop for x = (f))", whole("(x nil)", "", "(setq x (f))", "", "nil"), 2},
		{"(loop for x = 1 then (f x))", whole("(g2 t) (x nil)", "", "(setq x (if g2 1 (f x))) (setq g2 nil)", "", "nil"), 3},
		{"(loop for x from 1)", whole("(g2 1) (x nil)", "", "(setq x g2) (setq g2 (+ g2 1))", "", "nil"), 3},
		{"(loop for x to 5)", whole("(g2 0) (g3 5) (x nil)", "", "(if (> g2 g3) (go g1)) (setq x g2) (setq g2 (+ g2 1))", "", "nil"), 4},
		{"(loop for x below n by 'k)", whole("(g2 0) (g3 n) (x nil)", "", "(if (>= g2 g3) (go g1)) (setq x g2) (setq g2 (+ g2 'k))", "", "nil"), 4},
		{"(loop for x from 5 downto 1 by (k))", whole("(g2 5) (g3 1) (g4 (k)) (x nil)", "", "(if (< g2 g3) (go g1)) (setq x g2) (setq g2 (- g2 g4))", "", "nil"), 5},
		{"(loop for x from 5 above 1)", whole("(g2 5) (g3 1) (x nil)", "", "(if (<= g2 g3) (go g1)) (setq x g2) (setq g2 (- g2 1))", "", "nil"), 4},
		{"(loop for x downfrom 5 by k)", whole("(g2 5) (g3 k) (x nil)", "", "(setq x g2) (setq g2 (- g2 g3))", "", "nil"), 4},
		{"(loop repeat n)", whole("(g2 n)", "", "(if (< 0 g2) nil (go g1)) (setq g2 (- g2 1))", "", "nil"), 3},
		{"(loop while x until y)", whole("", "", "(if x nil (go g1)) (if y (go g1))", "", "nil"), 2},
		{"(loop always x)", whole("", "", "(if x nil (return-from nil nil))", "", "t"), 2},
		{"(loop named a never x)", "(block a (let* () (tagbody g0 (if x (return-from a nil)) (go g0) g1) t))", 2},
		{"(loop thereis x thereis y)", whole("", "", "(let* ((g2 x)) (if g2 (return-from nil g2))) (let* ((g3 y)) (if g3 (return-from nil g3)))", "", "nil"), 4},
		{"(loop always x thereis y)", whole("", "", "(if x nil (return-from nil nil)) (let* ((g2 y)) (if g2 (return-from nil g2)))", "", "t"), 3},
		{"(loop collect x append y)", whole("(g2 nil)", "", "(setq g2 (append g2 (list x))) (setq g2 (append g2 y))", "", "g2"), 3},
		{"(loop sum x count y)", whole("(g2 0)", "", "(setq g2 (+ g2 x)) (if y (setq g2 (+ g2 1)))", "", "g2"), 3},
		{"(loop maximize x minimize y)", whole("(g2 nil)", "", "(let* ((g3 x)) (setq g2 (if g2 (max g2 g3) g3))) (let* ((g4 y)) (setq g2 (if g2 (min g2 g4) g4)))", "", "g2"), 5},
		{"(loop collect x into v sum y into w always z)", whole("(v nil) (w 0)", "", "(setq v (append v (list x))) (setq w (+ w y)) (if z nil (return-from nil nil))", "", "t"), 2},
		{"(loop with a for b = 1 collect b sum b into c)", whole("(g2 nil) (c 0) (a nil) (b nil)", "", "(setq b 1) (setq g2 (append g2 (list b))) (setq c (+ c b))", "", "g2"), 3},
		{"(loop if x do (f) (g))", whole("", "", "(if x (progn (progn (f) (g))) (progn))", "", "nil"), 2},
		{"(loop if x collect 1 into a else sum 2 into b sum 3 into c collect 4 into a)", whole("(a nil) (b 0) (c 0)", "", "(if x (progn (setq a (append a (list 1)))) (progn (setq b (+ b 2)))) (setq c (+ c 3)) (setq a (append a (list 4)))", "", "nil"), 2},
		{"(loop unless x maximize y and return z else maximize w)", whole("(g2 nil)", "", "(if x (progn (let* ((g4 w)) (setq g2 (if g2 (max g2 g4) g4)))) (progn (let* ((g3 y)) (setq g2 (if g2 (max g2 g3) g3))) (return-from nil z)))", "", "g2"), 5},
		{"(loop if x if y count z)", whole("(g2 0)", "", "(if x (progn (if y (progn (if z (setq g2 (+ g2 1)))) (progn))) (progn))", "", "g2"), 3},
		{"(loop repeat 2 for x in l do (f))", whole("(g2 2) (g3 l) (x nil)", "", "(if (< 0 g2) nil (go g1)) (setq g2 (- g2 1)) (if (atom g3) (go g1)) (setq x (car g3)) (setq g3 (cdr g3)) (progn (f))", "", "nil"), 4},
	} {
		got, next, e := loop.Macro(form(t, c.from), 0)
		fails(t, c.from, e, api.OK)
		same(t, c.from, got, form(t, c.to))
		if next != c.next {
			t.Errorf("%s: %d is next; want %d", c.from, next, c.next)
		}
	}
	got, next, e := loop.Expand(nil, 7)
	fails(t, "no clauses", e, api.OK)
	same(t, "no clauses", got, form(t, "(block nil (let* () (tagbody g7 (go g7) g8) nil))"))
	if next != 9 {
		t.Errorf("%d is next", next)
	}
}

// P24.1: errors in their order.
func TestErrors(t *testing.T) {
	many := strings.Repeat(" sum 1", 200)
	deep := strings.Repeat(" if x", 60) + " do (f)"
	for _, c := range []struct {
		from  string
		fresh int
		want  api.Errno
	}{
		{"while x", 1 << 30, api.OK}, {"while x", 1<<30 + 1, api.ErrArg}, {"while x", -1, api.ErrArg}, {"(f)", -1, api.ErrArg}, {"foo", -1, api.ErrArg}, {"foo", 0, api.ErrForm},
		{"for v below nil", 0, api.ErrForm}, {"for v from 1 above nil", 0, api.ErrForm}, {"for v upto nil", 0, api.OK}, {"while '#1=x do (f '#1#)", 0, api.ErrForm},
		{"while x named a", 0, api.ErrOrder}, {"with v named a", 0, api.ErrOrder}, {"named a named b", 0, api.ErrOrder}, {"while x with v", 0, api.ErrOrder}, {"while x for v in l", 0, api.ErrOrder}, {"do (f) for v on l", 0, api.ErrOrder}, {"return 1 for v across l", 0, api.ErrOrder}, {"if x do (f) end for v = 1", 0, api.ErrOrder}, {"collect x for v from 1", 0, api.ErrOrder}, {"thereis x with v", 0, api.ErrOrder},
		{"do (f) initially (g) finally (h)", 0, api.OK}, {"repeat 1 with v for w in l repeat 2 with z", 0, api.OK}, {"do (f) repeat 3", 0, api.OK}, {"initially (f) with v finally (g) for w in l", 0, api.OK},
		{"collect 1 sum 2", 0, loop.ErrKind}, {"sum 1 maximize 2", 0, loop.ErrKind}, {"collect 1 if x count 2", 0, loop.ErrKind}, {"if x sum 1 else append 2", 0, loop.ErrKind}, {"collect 1 append 2", 0, api.OK}, {"collect 1 into a sum 2", 0, api.OK},
		{"collect 1 always x", 0, loop.ErrKind}, {"never x sum 1", 0, loop.ErrKind}, {"thereis x maximize 1", 0, loop.ErrKind}, {"always x if y collect 1", 0, loop.ErrKind}, {"collect 1 into a always x", 0, api.OK},
		{"collect 1 into a sum 2 into a", 0, loop.ErrKind}, {"sum 1 into a if x minimize 2 into a", 0, loop.ErrKind}, {"sum 1 into a count 2 into a", 0, api.OK}, {"collect 1 into u::a sum 2 into a", 0, api.OK},
		{"for v below nil named a collect 1 sum 2", 0, api.ErrForm}, {"collect 1 sum 2 named a", 0, api.ErrOrder}, {many, 0, api.OK}, {many + " named a sum 1", 0, api.ErrSize}, {many + " if x do (f)", 0, api.ErrSize}, {deep, 0, api.ErrSize},
		{"collect '(" + strings.Repeat("1 ", 1950) + ")", 0, api.OK}, {"collect '(" + strings.Repeat("1 ", 1980) + ")", 0, api.ErrSize}, {"(f '(" + strings.Repeat("1 ", 1985) + "))", 0, api.ErrSize},
	} {
		f, next, e := loop.Macro(form(t, "(loop "+c.from+")"), c.fresh)
		fails(t, fmt.Sprintf("%.60s from %d on", c.from, c.fresh), e, c.want)
		if e != api.OK && (f.Kind != 0 || next != 0) {
			t.Errorf("%s: %v, %d with an error", c.from, f, next)
		}
	}
}

// P24.1: clauses that are not as they must be.
func TestCheck(t *testing.T) {
	nothing, v, x, list := forms.Nil(), forms.Symbol("U", "V"), forms.Symbol("U", "X"), form(t, "(f)")
	one := []api.Form{x}
	numbers := func(limit api.Form, how string) []api.Form {
		return []api.Form{x, limit, x, {Kind: api.FormInt, Text: how}}
	}
	do := loop.Clause{Kind: loop.Do, Forms: []api.Form{list}}
	inner := []loop.Clause{do}
	right := []loop.Clause{
		{Kind: loop.Named, Var: v}, {Kind: loop.Named, Var: nothing}, {Kind: loop.With, Var: v, Forms: one}, {Kind: loop.Initially, Forms: []api.Form{list, list}}, {Kind: loop.Finally, Forms: []api.Form{list}},
		{Kind: loop.Arithmetic, Var: v, Forms: numbers(nothing, "0")}, {Kind: loop.Arithmetic, Var: v, Forms: numbers(x, "3")}, {Kind: loop.Arithmetic, Var: v, Forms: numbers(nothing, "2")},
		{Kind: loop.In, Var: v, Forms: one}, {Kind: loop.On, Var: v, Forms: []api.Form{x, x}}, {Kind: loop.Across, Var: v, Forms: one}, {Kind: loop.Equals, Var: v, Forms: []api.Form{x, x}},
		{Kind: loop.Repeat, Forms: one}, {Kind: loop.While, Forms: one}, {Kind: loop.Until, Forms: one}, {Kind: loop.Always, Forms: one}, {Kind: loop.Never, Forms: one}, {Kind: loop.Thereis, Forms: one}, do,
		{Kind: loop.Collect, Var: nothing, Forms: one}, {Kind: loop.Append, Var: v, Forms: one}, {Kind: loop.Sum, Var: v, Forms: one}, {Kind: loop.Count, Var: v, Forms: one}, {Kind: loop.Maximize, Var: v, Forms: one}, {Kind: loop.Minimize, Var: nothing, Forms: one},
		{Kind: loop.If, Forms: one, Then: inner}, {Kind: loop.Unless, Forms: one, Then: inner, Else: inner}, {Kind: loop.Return, Forms: one},
	}
	for _, c := range right {
		fails(t, said([]loop.Clause{c}), loop.Check([]loop.Clause{c}), api.OK)
		wrong := []loop.Clause{c, c, c, c, c, c}
		wrong[0].Var = form(t, "#1=v")
		wrong[1].Forms = append(append([]api.Form{}, c.Forms...), api.Form{Kind: 99})
		wrong[2].Then = append(append([]loop.Clause{}, c.Then...), loop.Clause{Kind: loop.While, Forms: one})
		wrong[3].Else = append(append([]loop.Clause{}, c.Else...), loop.Clause{})
		wrong[4].Kind += 100
		wrong[5].Var = api.Form{Kind: api.FormSymbol, Text: "A", Kids: []api.Form{x}}
		for i, w := range wrong {
			fails(t, fmt.Sprint(i, " ", said([]loop.Clause{w})), loop.Check([]loop.Clause{w}), api.ErrForm)
			_, _, e := loop.Expand([]loop.Clause{w}, -1)
			fails(t, "Expand", e, api.ErrForm)
		}
	}
	for _, c := range []loop.Clause{
		{}, {Kind: -1}, {Kind: 26, Forms: one}, {Kind: loop.Named}, {Kind: loop.Named, Var: v, Forms: one}, {Kind: loop.With, Var: nothing, Forms: one}, {Kind: loop.With, Var: v}, {Kind: loop.With, Var: v, Forms: []api.Form{x, x}},
		{Kind: loop.Initially}, {Kind: loop.Finally, Forms: one}, {Kind: loop.Do}, {Kind: loop.Do, Forms: []api.Form{list, x}}, {Kind: loop.Do, Forms: []api.Form{list}, Var: v},
		{Kind: loop.Arithmetic, Var: v, Forms: numbers(nothing, "1")}, {Kind: loop.Arithmetic, Var: v, Forms: numbers(nothing, "3")}, {Kind: loop.Arithmetic, Var: v, Forms: numbers(x, "4")}, {Kind: loop.Arithmetic, Var: v, Forms: numbers(x, "-1")}, {Kind: loop.Arithmetic, Var: v, Forms: numbers(x, "0")[:3]}, {Kind: loop.Arithmetic, Var: v, Forms: []api.Form{x, x, x, {Kind: api.FormString, Text: "0"}}},
		{Kind: loop.In, Var: v}, {Kind: loop.In, Var: v, Forms: []api.Form{x, x, x}}, {Kind: loop.In, Forms: one}, {Kind: loop.On, Var: forms.Symbol("KEYWORD", "K"), Forms: one}, {Kind: loop.Across, Var: v, Forms: []api.Form{x, x}}, {Kind: loop.Equals, Var: v},
		{Kind: loop.Repeat}, {Kind: loop.While, Var: nothing, Forms: one}, {Kind: loop.Until, Forms: []api.Form{x, x}}, {Kind: loop.Collect, Forms: one}, {Kind: loop.Sum, Var: forms.Symbol("COMMON-LISP", "T"), Forms: one}, {Kind: loop.Count, Var: nothing}, {Kind: loop.Return, Var: nothing, Forms: one},
		{Kind: loop.If, Forms: one}, {Kind: loop.If, Forms: one, Else: inner}, {Kind: loop.Unless, Then: inner}, {Kind: loop.If, Var: v, Forms: one, Then: inner}, {Kind: loop.If, Forms: one, Then: []loop.Clause{{Kind: loop.Repeat, Forms: one}}}, {Kind: loop.If, Forms: one, Then: []loop.Clause{{Kind: loop.If, Forms: one}}},
	} {
		fails(t, said([]loop.Clause{c}), loop.Check([]loop.Clause{c}), api.ErrForm)
		f, next, e := loop.Expand([]loop.Clause{c}, 0)
		if e != api.ErrForm || f.Kind != 0 || next != 0 {
			t.Errorf("%s: %v, %d, %v", said([]loop.Clause{c}), f, next, e)
		}
	}
	// clauses that are parts of themselves are too many
	endless := []loop.Clause{{Kind: loop.If, Forms: one}}
	endless[0].Then = endless
	fails(t, "endless clauses", loop.Check(endless), api.ErrSize)
	_, _, e := loop.Expand(endless, -1)
	fails(t, "endless clauses", e, api.ErrSize)
	_, _, e = loop.Expand(inner, -1)
	fails(t, "Expand from -1 on", e, api.ErrArg)
}
