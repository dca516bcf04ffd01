package lib

import (
	"strconv"

	"commonform/api"
	"commonform/heap"
	"commonform/symbols"
)

func symbolRoutines() map[string]routine {
	bound := func(i int) routine {
		return whether(func(w *World, x heap.Word) bool { return w.field(x, i) != heap.Unbound })
	}
	return map[string]routine{
		"SYMBOL-NAME": one(func(w *World, a []heap.Word) heap.Word {
			_, name, _ := w.Name(a[0])
			return w.str(name)
		}),
		"SYMBOL-PACKAGE": one((*World).home),
		"SYMBOL-VALUE":   one((*World).value),
		"SET": one(func(w *World, a []heap.Word) heap.Word {
			w.assign(a[0], a[1])
			return a[1]
		}),
		"BOUNDP": bound(valueField),
		"MAKUNBOUND": one(func(w *World, a []heap.Word) heap.Word {
			w.assign(a[0], heap.Unbound)
			return a[0]
		}),
		"SYMBOL-FUNCTION": one(func(w *World, a []heap.Word) heap.Word { return w.functionOf(a[0]) }),
		"%FSET": one(func(w *World, a []heap.Word) heap.Word {
			f := w.resolved(a[1])
			w.heap.Set(a[0], functionField, f)
			return f
		}),
		"FBOUNDP": bound(functionField),
		"FMAKUNBOUND": one(func(w *World, a []heap.Word) heap.Word {
			w.heap.Set(a[0], functionField, heap.Unbound)
			return a[0]
		}),
		"SYMBOL-PLIST": one(func(w *World, a []heap.Word) heap.Word { return w.field(a[0], listField) }),
		"%SET-PLIST": one(func(w *World, a []heap.Word) heap.Word {
			w.heap.Set(a[0], listField, a[1])
			return a[1]
		}),
		"INTERN":      (*World).intern,
		"FIND-SYMBOL": (*World).findSymbol,
		"MAKE-SYMBOL": one(func(w *World, a []heap.Word) heap.Word { return w.newSymbol(w.text(a[0]), a, "") }),
		"GENSYM":      one((*World).gensym),
	}
}

func (w *World) home(a []heap.Word) heap.Word {
	home, _, _ := w.Name(a[0])
	if home == "" {
		return heap.Nil
	}
	return w.str(home)
}

func (w *World) value(a []heap.Word) heap.Word {
	x := w.field(a[0], valueField)
	if x == heap.Unbound {
		fail("UNBOUND-VARIABLE", a[0])
	}
	return x
}

// assign changes the value of a symbol that is no constant.
func (w *World) assign(symbol, x heap.Word) {
	if w.SetValue(symbol, x) != api.OK {
		fail("PROGRAM-ERROR", symbol)
	}
}

// resolved returns a function, or that of a symbol.
func (w *World) resolved(x heap.Word) heap.Word {
	if w.isSymbol(x) {
		return w.functionOf(x)
	}
	return x
}

// found finds a symbol by its name and, if there is a second argument, its package; made is whether it would be made.
func (w *World) found(a []heap.Word, intern bool) (pack, name string, symbol, status int) {
	pack, name = user, w.text(a[0])
	if len(a) > 1 {
		pack = w.text(a[1])
	}
	symbol, status, e := w.table.Find(pack, name)
	if e == api.OK && intern && status == symbols.None && w.full(1) {
		e = api.ErrFull
	}
	if e != api.OK {
		if len(a) < 2 {
			fail("PACKAGE-ERROR", w.str(user))
		}
		fail("PACKAGE-ERROR", a[1])
	}
	return pack, name, symbol, status
}

// statusName returns the name of a status.
func statusName(status int) string {
	switch status {
	case symbols.Internal:
		return "INTERNAL"
	case symbols.External:
		return "EXTERNAL"
	}
	return "INHERITED"
}

// intern makes room for the symbol and for that of its status ahead of all changes.
func (w *World) intern(a []heap.Word) Answer {
	pack, name, _, status := w.found(a, true)
	need, _, _ := w.lookup(pack, name)
	if status != symbols.None {
		more, _, e := w.lookup(keyword, statusName(status))
		if e != api.OK {
			panic(e)
		}
		need += more
	}
	if !w.room(need) {
		panic(api.ErrWords)
	}
	x := made(w.Symbol(pack, name))
	if status == symbols.None {
		return values(x, heap.Nil)
	}
	return values(x, made(w.Symbol(keyword, statusName(status))))
}

func (w *World) findSymbol(a []heap.Word) Answer {
	if _, _, _, status := w.found(a, false); status == symbols.None {
		return values(heap.Nil, heap.Nil)
	}
	return w.intern(a)
}

// newSymbol makes a symbol without a home. The data of an error is the argument, or a new string without one.
func (w *World) newSymbol(name string, a []heap.Word, missing string) heap.Word {
	if len(name) > api.MaxName || w.full(1) {
		if len(a) == 0 {
			fail("PACKAGE-ERROR", w.str(missing))
		}
		fail("PACKAGE-ERROR", a[0])
	}
	if !w.room(symbolWords(name)) {
		panic(api.ErrWords)
	}
	n, _ := w.table.Fresh(name)
	return w.make(n)
}

func (w *World) gensym(a []heap.Word) heap.Word {
	prefix := "G"
	if len(a) > 0 {
		prefix = w.text(a[0])
	}
	x := w.newSymbol(prefix+strconv.Itoa(w.counter), a, prefix)
	w.counter++
	return x
}
