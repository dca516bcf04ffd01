package core_test

import (
	"fmt"
	"regexp"
	"slices"
	"strings"
	"testing"

	"commonform/api"
	"commonform/core"
	"commonform/reader"
)

func fails(t *testing.T, what string, got, want api.Errno) {
	t.Helper()
	if got != want {
		t.Errorf("%s: %v; want %v", what, got, want)
	}
}

// short returns what of a value is worth to be printed.
func short(x any) string { return fmt.Sprintf("%.400s", fmt.Sprintf("%+v", x)) }

func equal(t *testing.T, what string, got, want any) {
	t.Helper()
	if fmt.Sprintf("%+v", got) != fmt.Sprintf("%+v", want) {
		t.Errorf("%s = %s; want %s", what, short(got), short(want))
	}
}

// names are those of COMMON-LISP in the tests' forms.
func names() []string {
	return strings.Fields("NIL T LAMBDA DECLARE SPECIAL IGNORE QUOTE FUNCTION IF PROGN LET LET* SETQ BLOCK RETURN-FROM TAGBODY GO CATCH THROW UNWIND-PROTECT MULTIPLE-VALUE-CALL MULTIPLE-VALUE-PROG1 PROGV FLET LABELS LOCALLY THE LOAD-TIME-VALUE &OPTIONAL &REST &KEY &ALLOW-OTHER-KEYS &AUX CAR")
}

// homes gives symbols of COMMON-LISP their home.
func homes(f api.Form, lisp []string) api.Form {
	if f.Kind == api.FormSymbol && f.Home == "U" && slices.Contains(lisp, f.Text) {
		f.Home = "COMMON-LISP"
	}
	for i, kid := range f.Kids {
		f.Kids[i] = homes(kid, lisp)
	}
	return f
}

// form reads a form.
func form(t *testing.T, text string) api.Form {
	t.Helper()
	r, at, e := reader.One(reader.Standard("U"), text)
	if e != api.OK {
		t.Fatalf("%s: %v at %d", text, e, at)
	}
	return homes(r.Form, names())
}

func forms(t *testing.T, texts ...string) []api.Form {
	t.Helper()
	var l []api.Form
	for _, text := range texts {
		l = append(l, form(t, text))
	}
	return l
}

// brief returns the text of a tree in which symbols are their names, and constant integers their digits.
func brief(text string) string {
	text = strings.NewReplacer("1:COMMON-LISP:", "", "1:U:", "", "1:KEYWORD:", "~").Replace(text)
	return regexp.MustCompile(`\b2::`).ReplaceAllString(text, "")
}

// converted returns the tree of a form.
func converted(t *testing.T, text string, specials ...string) api.Core {
	t.Helper()
	c, e := core.Convert(form(t, text), forms(t, specials...))
	if e != api.OK {
		t.Fatalf("%s: %v", text, e)
	}
	return c
}

// shown returns the text of a tree.
func shown(t *testing.T, c api.Core) string {
	t.Helper()
	s, e := core.Show(c)
	if e != api.OK {
		t.Errorf("Show of %s: %v", short(c), e)
	}
	return s
}
