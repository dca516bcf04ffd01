package lib

import (
	"sort"

	"commonform/api"
	"commonform/heap"
	"commonform/symbols"
)

// Fields of the object of a symbol.
const (
	numberField = iota
	nameField
	valueField
	functionField
	listField // its property list
	symbolFields
)

// symbolWords is how many words the object of a symbol with a name takes.
func symbolWords(name string) int { return 1 + symbolFields + rawWords(len(name)) }

// Symbol returns the object of a symbol of a package.
func (w *World) Symbol(home, name string) (heap.Word, api.Errno) {
	if w.missing() {
		return 0, api.ErrArg
	}
	need, made, e := w.lookup(home, name)
	if e != api.OK {
		return 0, e
	}
	if need == 0 {
		return made, api.OK
	}
	if !w.room(need) {
		return 0, api.ErrWords
	}
	n, _, e := w.table.Intern(home, name)
	if e != api.OK {
		return 0, e
	}
	return w.make(n), api.OK
}

// lookup returns the object of the symbol that Intern returns, or how many words it needs; and the error of Intern. It changes nothing.
func (w *World) lookup(home, name string) (need int, made heap.Word, e api.Errno) {
	n, status, e := w.table.Find(home, name)
	if e != api.OK {
		return 0, 0, e
	}
	if status == symbols.None && w.full(1) {
		return 0, 0, api.ErrFull
	}
	if status != symbols.None {
		if x, ok := w.object(n); ok {
			return 0, x, api.OK
		}
	}
	return symbolWords(name), 0, api.OK
}

// object returns the object of a symbol, if it has one.
func (w *World) object(n int) (heap.Word, bool) {
	if n >= len(w.roots) || w.roots[n] == noRoot {
		return 0, false
	}
	x, e := w.heap.At(w.roots[n])
	return x, e == api.OK && x != heap.Unbound
}

// make makes the object of a symbol, for which there is room.
func (w *World) make(n int) heap.Word {
	x, _ := w.heap.New(heap.KindSymbol, symbolFields)
	w.fill(x, n)
	return x
}

// fill makes an object that of a symbol.
func (w *World) fill(x heap.Word, n int) {
	name, home, _ := w.table.Symbol(n)
	text, _ := w.heap.Raw(heap.KindString, name)
	w.heap.Set(x, numberField, fixnum(n))
	w.heap.Set(x, nameField, text)
	w.heap.Set(x, valueField, heap.Unbound)
	if home == keyword {
		w.heap.Set(x, valueField, x)
	}
	w.heap.Set(x, functionField, heap.Unbound)
	w.hold(n, x)
}

// hold holds the object of a symbol by a root.
func (w *World) hold(n int, x heap.Word) {
	for len(w.roots) <= n {
		w.roots = append(w.roots, noRoot)
	}
	w.roots[n] = w.heap.Root(x)
}

// count returns how many symbols there are.
func (w *World) count() int {
	return sort.Search(api.MaxSymbols, func(n int) bool {
		_, _, e := w.table.Symbol(n)
		return e != api.OK
	})
}

// full reports whether there is no room for so many more symbols.
func (w *World) full(more int) bool { return w.count()+more > api.MaxSymbols }

func (w *World) isSymbol(x heap.Word) bool { return w.heap.Kind(x) == heap.KindSymbol }

// Name returns the home and the name of a symbol.
func (w *World) Name(x heap.Word) (home, name string, e api.Errno) {
	if w.missing() {
		return "", "", api.ErrArg
	}
	n, ok := w.field(x, numberField).Fixnum()
	if !w.isSymbol(x) || !ok {
		return "", "", ErrNoSymbol
	}
	name, home, e = w.table.Symbol(int(n))
	if e != api.OK {
		return "", "", ErrNoSymbol
	}
	return home, name, api.OK
}

// constant reports whether a symbol's value does not change.
func (w *World) constant(x heap.Word) bool {
	home, name, _ := w.Name(x)
	return x == heap.Nil || home == keyword || home == lisp && (name == "NIL" || name == "T")
}

// Value returns the value of a symbol, Unbound if it has none.
func (w *World) Value(symbol heap.Word) (heap.Word, api.Errno) {
	return w.part(symbol, valueField)
}

// Function returns the function of a symbol, Unbound if it has none.
func (w *World) Function(symbol heap.Word) (heap.Word, api.Errno) {
	return w.part(symbol, functionField)
}

func (w *World) part(symbol heap.Word, i int) (heap.Word, api.Errno) {
	if w.missing() {
		return 0, api.ErrArg
	}
	if !w.isSymbol(symbol) {
		return 0, ErrNoSymbol
	}
	return w.heap.Get(symbol, i)
}

// SetValue changes the value of a symbol; Unbound takes it away.
func (w *World) SetValue(symbol, x heap.Word) api.Errno {
	return w.change(symbol, valueField, x, true)
}

// SetFunction changes the function of a symbol; Unbound takes it away.
func (w *World) SetFunction(symbol, x heap.Word) api.Errno {
	return w.change(symbol, functionField, x, x == heap.Unbound)
}

// change changes a field of a symbol, of a constant only if it is not refused.
func (w *World) change(symbol heap.Word, i int, x heap.Word, refused bool) api.Errno {
	if w.missing() {
		return api.ErrArg
	}
	if !w.isSymbol(symbol) {
		return ErrNoSymbol
	}
	if refused && w.constant(symbol) {
		return api.ErrArg
	}
	return w.heap.Set(symbol, i, x)
}
