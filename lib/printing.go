package lib

import (
	"commonform/api"
	"commonform/format"
	"commonform/forms"
	"commonform/heap"
	"commonform/printer"
	"commonform/reader"
	"commonform/trees"
	"commonform/types"
)

func otherRoutines() map[string]routine {
	return map[string]routine{
		"TYPEP":    one((*World).typep),
		"SUBTYPEP": (*World).subtypep,
		"FUNCALL": func(w *World, a []heap.Word) Answer {
			return Answer{Kind: AnswerNext, Function: w.resolved(a[0]), Values: a[1:]}
		},
		"APPLY":    (*World).apply,
		"VALUES":   func(_ *World, a []heap.Word) Answer { return values(a...) },
		"IDENTITY": one(func(_ *World, a []heap.Word) heap.Word { return a[0] }),
		"PRIN1":    printing(true, "", ""),
		"PRINC":    printing(false, "", ""),
		"PRINT":    printing(true, "\n", " "),
		"TERPRI": one(func(w *World, _ []heap.Word) heap.Word {
			w.print("\n")
			return heap.Nil
		}),
		"WRITE-STRING": one(func(w *World, a []heap.Word) heap.Word {
			w.print(w.text(a[0]))
			return a[0]
		}),
		"PRIN1-TO-STRING":  one(func(w *World, a []heap.Word) heap.Word { return w.str(w.printed(a[0], true)) }),
		"PRINC-TO-STRING":  one(func(w *World, a []heap.Word) heap.Word { return w.str(w.printed(a[0], false)) }),
		"READ-FROM-STRING": one((*World).read),
		"FORMAT":           one((*World).format),
	}
}

// print adds a text to the output.
func (w *World) print(s string) {
	if e := w.Print(s); e != api.OK {
		panic(e)
	}
}

// printed returns the text of an object.
func (w *World) printed(x heap.Word, escape bool) string {
	s, e := printer.Text(w.formOf(x), escape)
	if e != api.OK {
		fail("SIMPLE-ERROR", x)
	}
	return s
}

// printing makes a routine that prints an object between two texts.
func printing(escape bool, ahead, behind string) routine {
	return one(func(w *World, a []heap.Word) heap.Word {
		w.print(ahead + w.printed(a[0], escape) + behind)
		return a[0]
	})
}

func (w *World) read(a []heap.Word) heap.Word {
	r, _, e := reader.One(reader.Standard(user), w.text(a[0]))
	if e == api.OK {
		var x heap.Word
		x, e = w.Build(r.Form)
		if e == api.OK || e == api.ErrWords {
			return made(x, e)
		}
	}
	fail("PARSE-ERROR", a[0])
	return 0
}

func (w *World) format(a []heap.Word) heap.Word {
	var args []api.Form
	for _, x := range a[2:] {
		args = append(args, w.formOf(x))
	}
	s, e := format.Format(w.text(a[1]), args)
	if e != api.OK {
		fail("SIMPLE-ERROR", a[1])
	}
	if a[0] == heap.Nil {
		return w.str(s)
	}
	w.print(s)
	return heap.Nil
}

// tested returns the form by which an object is tested for a type: one without labels.
func (w *World) tested(x heap.Word) api.Form {
	f := w.formOf(x)
	switch {
	case !trees.Labelled(f):
		return f
	case w.isCons(x):
		return forms.Dotted([]api.Form{formless()}, formless())
	}
	return formless()
}

// specifier returns the form of a type.
func (w *World) specifier(x heap.Word) api.Form {
	f := w.tested(x)
	if types.Check(f) != api.OK {
		fail("SIMPLE-ERROR", x)
	}
	return f
}

func (w *World) typep(a []heap.Word) heap.Word {
	t := w.specifier(a[1])
	yes, e := types.Typep(w.tested(a[0]), t)
	if e != api.OK { // a number in it is none
		yes, _ = types.Typep(formless(), t)
	}
	return w.truth(yes)
}

func (w *World) subtypep(a []heap.Word) Answer {
	x, y := w.specifier(a[0]), w.specifier(a[1])
	part, _, _ := types.Subtypep(x, y)
	return values(w.truth(part), w.truth(true))
}

func (w *World) apply(a []heap.Word) Answer {
	f, last := w.resolved(a[0]), a[len(a)-1]
	if !w.isProper(last) {
		w.wrong(last, "LIST")
	}
	args := append(a[1:len(a)-1:len(a)-1], w.items(last)...)
	return Answer{Kind: AnswerNext, Function: f, Values: args}
}
