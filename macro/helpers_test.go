package macro_test

import (
	"fmt"
	"slices"
	"strings"
	"testing"

	"commonform/api"
	"commonform/condition"
	"commonform/core"
	"commonform/forms"
	"commonform/heap"
	"commonform/lib"
	"commonform/loop"
	"commonform/macro"
	"commonform/meaning"
	"commonform/place"
	"commonform/printer"
	"commonform/reader"
)

func fails(t *testing.T, what string, got, want api.Errno) {
	t.Helper()
	if got != want {
		t.Errorf("%s: %v; want %v", what, got, want)
	}
}

const (
	lisp = "COMMON-LISP"
	user = "COMMON-LISP-USER"
)

// names are those of COMMON-LISP in the tests' forms.
func names() []string {
	special := "NIL T DECLARE SPECIAL IGNORE QUOTE FUNCTION IF PROGN LET LET* SETQ BLOCK RETURN-FROM TAGBODY GO CATCH THROW UNWIND-PROTECT MULTIPLE-VALUE-CALL MULTIPLE-VALUE-PROG1 PROGV FLET LABELS LOCALLY THE LOAD-TIME-VALUE MACROLET SYMBOL-MACROLET EVAL-WHEN EVAL LOAD OTHERWISE STANDARD " +
		"&OPTIONAL &REST &BODY &KEY &ALLOW-OTHER-KEYS &AUX &WHOLE &ENVIRONMENT CALL-NEXT-METHOD NEXT-METHOD-P DEFSETF LOOP INTEGER STRING SYMBOL LIST SIMPLE-ERROR TYPE-ERROR CONTROL-ERROR " +
		"%FAULT %FSET %DEFCLASS %DEFGENERIC %DEFMETHOD %GENERIC-P %CALL-GENERIC %NO-NEXT-METHOD %BAD-FORM SLOT-VALUE %SET-SLOT-VALUE SIGNAL ERROR WARN CERROR FIND-RESTART COMPUTE-RESTARTS INVOKE-RESTART CONTINUE MUFFLE-WARNING CONDITION-DATA %HANDLERS% %RESTARTS% CONDITION WARNING SIMPLE-WARNING DIVISION-BY-ZERO ARITHMETIC-ERROR UNDEFINED-FUNCTION UNBOUND-VARIABLE FIRST REST SECOND THIRD CAAR CADR CDAR CDDR SVREF FDEFINITION"
	return slices.Concat(lib.Names(), macro.Standard(), placeNames(), conditionNames(), strings.Fields(special))
}

func placeNames() []string {
	return strings.Fields("SETF PSETF INCF DECF PUSH PUSHNEW POP ROTATEF SHIFTF")
}

func conditionNames() []string {
	return strings.Fields("HANDLER-BIND RESTART-BIND HANDLER-CASE RESTART-CASE IGNORE-ERRORS WITH-SIMPLE-RESTART DEFINE-CONDITION ASSERT CHECK-TYPE")
}

// renamed returns a form whose symbols are what a function says.
func renamed(f api.Form, name func(api.Form) api.Form) api.Form {
	if f.Kind == api.FormSymbol {
		return name(f)
	}
	kids := f.Kids
	f.Kids = nil
	for _, kid := range kids {
		f.Kids = append(f.Kids, renamed(kid, name))
	}
	return f
}

// homes gives symbols of COMMON-LISP their home; %0, %1 and so on are the fresh variables with these numbers.
func homes(f api.Form) api.Form {
	known := names()
	return renamed(f, func(s api.Form) api.Form {
		digits, ok := strings.CutPrefix(s.Text, "%")
		switch {
		case s.Home != user:
		case ok && digits != "" && strings.Trim(digits, "0123456789") == "":
			return forms.Symbol("%", digits)
		case slices.Contains(known, s.Text):
			s.Home = lisp
		}
		return s
	})
}

// form reads a form.
func form(t *testing.T, text string) api.Form {
	t.Helper()
	r, at, e := reader.One(reader.Standard(user), text)
	if e != api.OK {
		t.Fatalf("%s: %v at %d", text, e, at)
	}
	return homes(r.Form)
}

func text(f api.Form) string {
	f = renamed(f, func(s api.Form) api.Form {
		if s.Home == "%" {
			return forms.Symbol(user, "%"+s.Text)
		}
		return s
	})
	o := printer.Standard(user)
	o.Uses = []string{lisp}
	s, e := printer.Print(o, f)
	if e != api.OK {
		return fmt.Sprint("?", e, f)
	}
	return s
}

func same(t *testing.T, what string, got, want api.Form) {
	t.Helper()
	if !forms.Equal(got, want) {
		t.Errorf("%s:\n%s; want\n%s", what, text(got), text(want))
	}
}

func newWorld(t *testing.T) *lib.World {
	t.Helper()
	w, e := lib.New(api.MaxWords, 1000)
	fails(t, "a new world", e, api.OK)
	return w
}

// shown returns the texts of objects, without what tells of sharing where that can be.
func shown(w *lib.World, l []heap.Word) string {
	var texts []string
	for _, x := range l {
		f, e := w.Show(x)
		if plain, e := forms.Plain(f); e == api.OK {
			f = plain
		}
		s, e2 := printer.Text(f, true)
		if e != api.OK || e2 != api.OK {
			s = "?"
		}
		texts = append(texts, s)
	}
	return strings.Join(texts, " ")
}

// ending returns the text of an end.
func ending(w *lib.World, end lib.End) string {
	switch end.Kind {
	case lib.EndValues:
		return strings.TrimSpace("= " + shown(w, end.Values))
	case lib.EndFault:
		return strings.TrimSpace("! " + end.Fault.Type + " " + shown(w, end.Fault.Data))
	case lib.EndLimit:
		return "limit " + end.Code.Error()
	case lib.EndBad:
		return "bad " + end.Code.Error()
	}
	return "?"
}

// session runs programs with the macros of all layers.
type session struct {
	t     *testing.T
	w     *lib.World
	table macro.Table
	fresh int
}

// expanders are those of the layers above.
func expanders() []macro.Named {
	var l []macro.Named
	for _, name := range placeNames() {
		l = append(l, macro.Named{Name: name, Expand: func(f api.Form, fresh int) (api.Form, int, api.Errno) {
			return place.Macro(place.Standard(), f, fresh)
		}})
	}
	for _, name := range conditionNames() {
		l = append(l, macro.Named{Name: name, Expand: condition.Macro})
	}
	return append(l, macro.Named{Name: "LOOP", Expand: loop.Macro})
}

func newSession(t *testing.T) *session {
	t.Helper()
	table := macro.New()
	table.Expanders = expanders()
	w := newWorld(t)
	fails(t, "the package READER", w.Symbols().Make("READER", nil, nil), api.OK)
	return &session{t: t, w: w, table: table}
}

// form runs a form, and returns the text of its end.
func (s *session) form(f api.Form) string {
	s.t.Helper()
	table, next, is, end := macro.Define(s.w, s.table, f, s.fresh)
	if end.Kind != lib.EndValues {
		return ending(s.w, end)
	}
	if is {
		s.table, s.fresh = table, next
	}
	expanded, next, end := macro.All(s.w, s.table, f, s.fresh)
	if end.Kind != lib.EndValues {
		return ending(s.w, end)
	}
	s.fresh = next
	tree, e := core.Convert(expanded, s.table.Specials)
	if e != api.OK {
		return "refused " + e.Error()
	}
	end, _ = meaning.Run(s.w, tree, api.MaxSteps)
	return ending(s.w, end)
}

// run runs a program, and returns the texts of its forms' ends.
func (s *session) run(program string) string {
	s.t.Helper()
	l, at, e := reader.All(reader.Standard(user), program)
	if e != api.OK {
		s.t.Fatalf("%s: %v at %d", program, e, at)
	}
	var all []string
	for _, r := range l {
		all = append(all, s.form(homes(r.Form)))
	}
	return strings.Join(all, ", ")
}
