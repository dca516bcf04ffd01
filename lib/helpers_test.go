package lib_test

import (
	"fmt"
	"strings"
	"testing"

	"commonform/api"
	"commonform/forms"
	"commonform/heap"
	"commonform/lib"
	"commonform/printer"
	"commonform/reader"
)

func fails(t *testing.T, what string, got, want api.Errno) {
	t.Helper()
	if got != want {
		t.Errorf("%s: %v; want %v", what, got, want)
	}
}

// short returns what of a value is worth to be printed.
func short(x any) string { return fmt.Sprintf("%.400s", fmt.Sprintf("%+v", x)) }

func equal(t *testing.T, what string, got, want any) {
	t.Helper()
	if fmt.Sprintf("%+v", got) != fmt.Sprintf("%+v", want) {
		t.Errorf("%s = %s; want %s", what, short(got), short(want))
	}
}

func newWorld(t *testing.T) *lib.World {
	t.Helper()
	w, e := lib.New(api.MaxWords, 1000)
	fails(t, "a new world", e, api.OK)
	return w
}

// form reads a form.
func form(t *testing.T, text string) api.Form {
	t.Helper()
	r, at, e := reader.One(reader.Standard("COMMON-LISP-USER"), text)
	if e != api.OK {
		t.Fatalf("%s: %v at %d", text, e, at)
	}
	return r.Form
}

// object builds an object.
func object(t *testing.T, w *lib.World, text string) heap.Word {
	t.Helper()
	x, e := w.Build(form(t, text))
	if e != api.OK {
		t.Fatalf("Build of %s: %v", text, e)
	}
	return x
}

func symbol(t *testing.T, w *lib.World, home, name string) heap.Word {
	t.Helper()
	x, e := w.Symbol(home, name)
	fails(t, "the symbol "+name, e, api.OK)
	return x
}

// text returns the text of an object.
func text(w *lib.World, x heap.Word) string {
	f, e := w.Show(x)
	if e != api.OK {
		return "?" + e.Error()
	}
	s, e := printer.Text(f, true)
	if e != api.OK {
		return "?" + e.Error()
	}
	return s
}

func texts(w *lib.World, l []heap.Word) string {
	var all []string
	for _, x := range l {
		all = append(all, text(w, x))
	}
	return strings.Join(all, " ")
}

// answered returns the text of an answer: values, or a mark and what else it is.
func answered(w *lib.World, a lib.Answer) string {
	s := ""
	switch a.Kind {
	case lib.AnswerValues:
		s = texts(w, a.Values)
	case lib.AnswerFault:
		s = "! " + a.Fault.Type + " " + texts(w, a.Fault.Data)
	case lib.AnswerNext:
		s = "> " + text(w, a.Function) + " " + texts(w, a.Values)
	case lib.AnswerLimit:
		s = "limit " + a.Code.Error()
	}
	return strings.TrimSpace(s)
}

// answer calls a builtin function with objects.
func answer(t *testing.T, w *lib.World, name string, args ...heap.Word) lib.Answer {
	t.Helper()
	return w.Call(symbol(t, w, "COMMON-LISP", name), args)
}

// called calls the function in front of a list with its elements, which are not evaluated; elements that are shared in the list are one object.
func called(t *testing.T, w *lib.World, call string) string {
	t.Helper()
	l := object(t, w, call)
	var parts []heap.Word
	for x := l; w.Heap().Kind(x) == heap.KindCons; {
		car, _ := w.Heap().Get(x, 0)
		x, _ = w.Heap().Get(x, 1)
		parts = append(parts, car)
	}
	return answered(w, w.Call(parts[0], parts[1:]))
}

// line is a call and its answer.
type line struct{ call, want string }

// calls calls functions one behind the other in a world.
func calls(t *testing.T, w *lib.World, lines []line) {
	t.Helper()
	for _, c := range lines {
		if got := called(t, w, c.call); got != c.want {
			t.Errorf("%s: %s; want %s", c.call, got, c.want)
		}
	}
}

// cons makes a cons.
func cons(w *lib.World, car, cdr heap.Word) heap.Word {
	x, _ := w.Heap().New(heap.KindCons, 2)
	w.Heap().Set(x, 0, car)
	w.Heap().Set(x, 1, cdr)
	return x
}

func fix(n int) heap.Word { return heap.Word(n) << 3 }

// fill leaves just so many words in the heap.
func fill(w *lib.World, left int) {
	h := w.Heap()
	for h.Used() < h.Limit()-left {
		if n := h.Limit() - left - h.Used(); n > 100 {
			h.New(heap.KindVector, min(n-10, 16000))
		} else {
			h.New(heap.KindVector, n-1)
		}
	}
}

// integer is the form of an integer.
func integer(s string) api.Form { return api.Form{Kind: api.FormInt, Text: s} }

func user(name string) api.Form { return forms.Symbol("COMMON-LISP-USER", name) }
