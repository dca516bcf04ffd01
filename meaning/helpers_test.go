package meaning_test

import (
	"fmt"
	"slices"
	"strings"
	"testing"

	"commonform/api"
	"commonform/core"
	"commonform/forms"
	"commonform/heap"
	"commonform/lib"
	"commonform/meaning"
	"commonform/printer"
	"commonform/reader"
)

func fails(t *testing.T, what string, got, want api.Errno) {
	t.Helper()
	if got != want {
		t.Errorf("%s: %v; want %v", what, got, want)
	}
}

// short returns what of a value is worth to be printed.
func short(x any) string { return fmt.Sprintf("%.400s", fmt.Sprintf("%+v", x)) }

func equal(t *testing.T, what string, got, want any) {
	t.Helper()
	if fmt.Sprintf("%+v", got) != fmt.Sprintf("%+v", want) {
		t.Errorf("%s = %s; want %s", what, short(got), short(want))
	}
}

func newWorld(t *testing.T) *lib.World {
	t.Helper()
	w, e := lib.New(api.MaxWords, 1000)
	fails(t, "a new world", e, api.OK)
	return w
}

// names are those of COMMON-LISP in the tests' programs.
func names() []string {
	special := "NIL T LAMBDA DECLARE SPECIAL QUOTE FUNCTION IF PROGN LET LET* SETQ BLOCK RETURN-FROM TAGBODY GO CATCH THROW UNWIND-PROTECT MULTIPLE-VALUE-CALL MULTIPLE-VALUE-PROG1 PROGV FLET LABELS LOCALLY THE LOAD-TIME-VALUE &OPTIONAL &REST &KEY &ALLOW-OTHER-KEYS &AUX %FAULT"
	return append(lib.Names(), strings.Fields(special)...)
}

// homes gives symbols of COMMON-LISP their home.
func homes(f api.Form, lisp []string) api.Form {
	if f.Kind == api.FormSymbol && f.Home == "COMMON-LISP-USER" && slices.Contains(lisp, f.Text) {
		f.Home = "COMMON-LISP"
	}
	for i, kid := range f.Kids {
		f.Kids[i] = homes(kid, lisp)
	}
	return f
}

// form reads a form.
func form(t *testing.T, text string) api.Form {
	t.Helper()
	r, at, e := reader.One(reader.Standard("COMMON-LISP-USER"), text)
	if e != api.OK {
		t.Fatalf("%s: %v at %d", text, e, at)
	}
	return homes(r.Form, names())
}

func tree(t *testing.T, text string) api.Core {
	t.Helper()
	c, e := core.Convert(form(t, text), nil)
	if e != api.OK {
		t.Fatalf("%s: %v", text, e)
	}
	return c
}

// shown returns the texts of objects, without what tells of sharing where that can be.
func shown(w *lib.World, l []heap.Word) string {
	var texts []string
	for _, x := range l {
		f, e := w.Show(x)
		if plain, e := forms.Plain(f); e == api.OK {
			f = plain
		}
		s, e2 := printer.Text(f, true)
		if e != api.OK || e2 != api.OK {
			s = "?"
		}
		texts = append(texts, s)
	}
	return strings.Join(texts, " ")
}

// ending returns the text of an end.
func ending(w *lib.World, end lib.End) string {
	switch end.Kind {
	case lib.EndValues:
		return strings.TrimSpace("= " + shown(w, end.Values))
	case lib.EndFault:
		return strings.TrimSpace("! " + end.Fault.Type + " " + shown(w, end.Fault.Data))
	case lib.EndLimit:
		return "limit " + end.Code.Error()
	case lib.EndBad:
		return "bad " + end.Code.Error()
	}
	return "?"
}

// ran runs a program, and returns the text of its end.
func ran(t *testing.T, w *lib.World, text string) string {
	t.Helper()
	end, _ := meaning.Run(w, tree(t, text), api.MaxSteps)
	return ending(w, end)
}
