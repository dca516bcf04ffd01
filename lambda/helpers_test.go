package lambda_test

import (
	"fmt"
	"slices"
	"strings"
	"testing"

	"commonform/api"
	"commonform/forms"
	"commonform/lambda"
	"commonform/printer"
	"commonform/reader"
)

func fails(t *testing.T, what string, got, want api.Errno) {
	t.Helper()
	if got != want {
		t.Errorf("%s: %v; want %v", what, got, want)
	}
}

// short returns what of a value is worth to be printed.
func short(x any) string { return fmt.Sprintf("%.400s", fmt.Sprintf("%+v", x)) }

func equal(t *testing.T, what string, got, want any) {
	t.Helper()
	if fmt.Sprintf("%+v", got) != fmt.Sprintf("%+v", want) {
		t.Errorf("%s = %s; want %s", what, short(got), short(want))
	}
}

// homes gives the symbols of COMMON-LISP among those of the tests their home.
func homes(f api.Form) api.Form {
	names := strings.Fields("NIL T &OPTIONAL &REST &BODY &KEY &ALLOW-OTHER-KEYS &AUX &WHOLE &ENVIRONMENT LIST QUOTE")
	if f.Kind == api.FormSymbol && f.Home == "USER" && slices.Contains(names, f.Text) {
		f.Home = "COMMON-LISP"
	}
	for i, kid := range f.Kids {
		f.Kids[i] = homes(kid)
	}
	return f
}

// form reads a form.
func form(t *testing.T, text string) api.Form {
	t.Helper()
	r, at, e := reader.One(reader.Standard("USER"), text)
	if e != api.OK {
		t.Fatalf("%s: %v at %d", text, e, at)
	}
	return homes(r.Form)
}

// items reads the elements of a list.
func items(t *testing.T, text string) []api.Form {
	t.Helper()
	l, ok := forms.Items(form(t, "("+text+")"))
	if !ok {
		t.Fatalf("%s is no list", text)
	}
	return l
}

// text returns the text of a form.
func text(f api.Form) string {
	o := printer.Standard("USER")
	o.Uses = []string{"COMMON-LISP"}
	s, e := printer.Print(o, f)
	if e != api.OK {
		return fmt.Sprint("?", e)
	}
	return s
}

func texts(l []api.Form) string {
	var all []string
	for _, f := range l {
		all = append(all, text(f))
	}
	return strings.Join(all, " ")
}

// said returns what a lambda list says: each item with its kind, what it binds, its init, and what tells of it.
func said(l lambda.List) string {
	var all []string
	for _, item := range l.Items {
		s := string("?ROTKAWE"[item.Kind]) + " "
		if item.Pattern != nil {
			s += "(" + said(*item.Pattern) + ")"
		} else {
			s += text(item.Var)
		}
		if item.Kind == lambda.Key {
			s += " by " + text(item.Key)
		} else if item.Key.Kind != 0 {
			s += " a key"
		}
		if !forms.IsNil(item.Init) {
			s += " = " + text(item.Init)
		}
		if item.Given.Kind != 0 {
			s += " ? " + text(item.Given)
		}
		all = append(all, s)
	}
	s := strings.Join(all, ", ")
	if l.Keys {
		s += " keys"
	}
	if l.Allow {
		s += " allow"
	}
	return strings.TrimSpace(s)
}

func parsed(t *testing.T, list string, macro bool) lambda.List {
	t.Helper()
	l, e := lambda.Parse(form(t, list), macro)
	if e != api.OK {
		t.Fatalf("Parse of %s: %v", list, e)
	}
	return l
}

// bound returns the text of bindings; * stands behind those that are missing.
func bound(l []lambda.Binding) string {
	var all []string
	for _, b := range l {
		s := text(b.Var) + "=" + text(b.Value)
		if b.Missing {
			s += "*"
		}
		all = append(all, s)
	}
	return strings.Join(all, " ")
}
