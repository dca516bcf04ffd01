package lib

import (
	"maps"
	"slices"

	"commonform/api"
	"commonform/heap"
	"commonform/symbols"
	"commonform/table"
)

// routine is what a builtin function does with arguments of the right types. A fault or a limit panics through it.
type routine func(w *World, args []heap.Word) Answer

// builtin is a builtin function: one of the tables, or one that was registered, whose arguments have any type.
type builtin struct {
	signature
	run    routine
	added  func(args []heap.Word) Answer
	atMost int // of one that was registered
}

// builtinWords is how many words the object of a builtin function takes.
const builtinWords = 2

// builtinObject makes the object of a builtin function, for which there is room.
func (w *World) builtinObject(index int) heap.Word {
	x, _ := w.heap.New(heap.KindBuiltin, 1)
	w.heap.Set(x, 0, fixnum(index))
	return x
}

// routines returns what builtin functions do, by their names.
func routines() map[string]routine {
	all := map[string]routine{}
	for _, some := range []map[string]routine{listRoutines(), kindRoutines(), numberRoutines(), symbolRoutines(), textRoutines(), arrayRoutines(), otherRoutines()} {
		maps.Copy(all, some)
	}
	return all
}

// values is an answer.
func values(l ...heap.Word) Answer { return Answer{Values: l} }

// one makes a routine of a function with one value.
func one(f func(*World, []heap.Word) heap.Word) routine {
	return func(w *World, args []heap.Word) Answer { return values(f(w, args)) }
}

// whether makes a routine of a predicate of the first argument.
func whether(f func(*World, heap.Word) bool) routine {
	return one(func(w *World, args []heap.Word) heap.Word { return w.truth(f(w, args[0])) })
}

// truth returns T or NIL.
func (w *World) truth(b bool) heap.Word {
	if b {
		return w.lisp("T")
	}
	return heap.Nil
}

// lisp returns a symbol of COMMON-LISP.
func (w *World) lisp(name string) heap.Word { return made(w.Symbol(lisp, name)) }

// fail leaves a builtin function with a fault.
func fail(kind string, data ...heap.Word) { panic(Fault{Type: kind, Data: data}) }

// wrong leaves a builtin function with the fault of an object that is not of a type.
func (w *World) wrong(x heap.Word, kind string) { fail("TYPE-ERROR", x, w.lisp(kind)) }

// made returns an object that was made; without room it leaves the builtin function.
func made(x heap.Word, e api.Errno) heap.Word {
	switch e {
	case api.OK:
		return x
	case api.ErrArg: // no object is so large
		panic(api.ErrWords)
	}
	panic(e)
}

// Call calls a function.
func (w *World) Call(function heap.Word, args []heap.Word) (answer Answer) {
	if w.missing() {
		return Answer{Kind: AnswerLimit, Code: api.ErrArg}
	}
	if !w.valid(function) || slices.ContainsFunc(args, func(x heap.Word) bool { return !w.valid(x) }) {
		return Answer{Kind: AnswerLimit, Code: heap.ErrWord}
	}
	defer func() {
		left := recover()
		if left == nil {
			return
		}
		answer = Answer{Kind: AnswerLimit, Code: api.ErrArg}
		if f, ok := left.(Fault); ok {
			answer = Answer{Kind: AnswerFault, Fault: f}
		}
		if e, ok := left.(api.Errno); ok {
			answer.Code = e
		}
	}()
	if w.isSymbol(function) {
		function = w.functionOf(function)
	}
	return w.follow(function, slices.Clone(args))
}

// functionOf returns the function of a symbol.
func (w *World) functionOf(symbol heap.Word) heap.Word {
	f := w.field(symbol, functionField)
	if f == heap.Unbound {
		fail("UNDEFINED-FUNCTION", symbol)
	}
	return f
}

// follow calls a function that is no symbol, and what FUNCALL and APPLY call in turn. (APPLY may be told to call itself for ever, by a list that is its own element.)
func (w *World) follow(function heap.Word, args []heap.Word) Answer {
	for range api.MaxLive {
		switch w.heap.Kind(function) {
		case heap.KindClosure, heap.KindCode:
			return Answer{Kind: AnswerNext, Function: function, Values: args}
		case heap.KindBuiltin:
		default:
			w.wrong(function, "FUNCTION")
		}
		i, ok := w.index(w.field(function, 0))
		if !ok || i >= len(w.builtins) {
			w.wrong(function, "FUNCTION")
		}
		answer := w.perform(w.builtins[i], args)
		if answer.Kind != AnswerNext || w.builtins[i].added != nil || w.heap.Kind(answer.Function) != heap.KindBuiltin {
			return answer
		}
		function, args = answer.Function, answer.Values
	}
	panic(api.ErrDepth)
}

// perform calls a builtin function.
func (w *World) perform(b builtin, args []heap.Word) Answer {
	if b.added != nil {
		if len(args) < b.least || b.atMost >= 0 && len(args) > b.atMost {
			fail("PROGRAM-ERROR", w.lisp(b.name))
		}
		return b.added(args)
	}
	if !b.takes(len(args)) {
		fail("PROGRAM-ERROR", w.lisp(b.name))
	}
	for i, x := range args {
		if letter := b.letter(i, len(args)); !w.is(x, letter) {
			w.wrong(x, typeName(letter))
		}
	}
	return b.run(w, args)
}

// is reports whether an object has the type of a letter.
func (w *World) is(x heap.Word, letter byte) bool {
	kind := w.heap.Kind(x)
	switch letter {
	case 'l':
		return x == heap.Nil || kind == heap.KindCons
	case 'p':
		return w.isProper(x)
	case 'q':
		return w.isProper(x) || w.isVector(x)
	case 's':
		return kind == heap.KindSymbol
	case 'n':
		return w.isNumber(x)
	case 'r':
		return w.isNumber(x) && kind != heap.KindComplex
	case 'a':
		return w.isInteger(x) || kind == heap.KindRatio
	case 'i':
		return w.isInteger(x)
	case 'k':
		return w.isNatural(x)
	case 'c':
		_, ok := x.Character()
		return ok
	case 't':
		return kind == heap.KindString
	case 'v':
		return w.isArray(x)
	case 'h':
		return w.isTable(x)
	case 'd':
		return kind == heap.KindCons
	case 'g':
		return w.isFunction(x) || kind == heap.KindSymbol
	}
	return true
}

func (w *World) isFunction(x heap.Word) bool {
	kind := w.heap.Kind(x)
	return kind == heap.KindBuiltin || kind == heap.KindClosure || kind == heap.KindCode
}

// isVector reports whether an object is a string, a bit vector or a vector.
func (w *World) isVector(x heap.Word) bool {
	kind := w.heap.Kind(x)
	return kind == heap.KindString || kind == heap.KindBits || kind == heap.KindVector
}

func (w *World) isArray(x heap.Word) bool {
	return w.isVector(x) || w.heap.Kind(x) == heap.KindArray
}

func (w *World) isTable(x heap.Word) bool {
	_, _, e := table.Test(w.heap, x)
	return e == api.OK
}

// Register adds a builtin function.
func (w *World) Register(name string, least, most int, f func(args []heap.Word) Answer) api.Errno {
	if w.missing() {
		return api.ErrArg
	}
	if _, known := w.indices[name]; known {
		return api.ErrTwice
	}
	if f == nil || least < 0 {
		return api.ErrArg
	}
	need, _, e := w.lookup(lisp, name)
	if e == api.OK && !w.room(need+builtinWords) {
		e = api.ErrWords
	}
	if e == api.OK {
		e = w.exportable(name)
	}
	if e != api.OK {
		return e
	}
	symbol, _ := w.exported(name)
	i := len(w.builtins)
	w.builtins = append(w.builtins, builtin{signature: signature{name: name, least: least}, atMost: most, added: f})
	w.indices[name] = i
	return w.heap.Set(symbol, functionField, w.builtinObject(i))
}

// exportable returns the error of Export of a symbol of COMMON-LISP, which may not be there yet.
func (w *World) exportable(name string) api.Errno {
	own, status, _ := w.table.Find(lisp, name)
	if status == symbols.External {
		return api.OK
	}
	pack, _ := w.table.Package(lisp)
	for _, user := range pack.UsedBy {
		n, status, _ := w.table.Find(user, name)
		p, _ := w.table.Package(user)
		if status != symbols.None && n != own && !slices.Contains(p.Shadowing, n) {
			return symbols.ErrClash
		}
	}
	return api.OK
}
