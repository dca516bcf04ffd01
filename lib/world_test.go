package lib_test

import (
	"fmt"
	"reflect"
	"slices"
	"strings"
	"testing"

	"commonform/api"
	"commonform/forms"
	"commonform/heap"
	"commonform/lib"
	"commonform/symbols"
)

// P20.1: a new world.
func TestNew(t *testing.T) {
	for _, c := range []struct {
		limit, young int
		want         api.Errno
	}{{63, 10, api.ErrArg}, {65537, 10, api.ErrArg}, {100, 0, api.ErrArg}, {100, 101, api.ErrArg}, {64, 64, api.ErrWords}, {1000, 1, api.ErrWords}, {65536, 65536, api.OK}} {
		w, e := lib.New(c.limit, c.young)
		if fails(t, "New", e, c.want); (w == nil) != (e != api.OK) {
			t.Errorf("New(%d, %d) = %v", c.limit, c.young, w)
		}
	}
	w := newWorld(t)
	used := w.Heap().Used()
	if _, e := lib.New(used, 1); e != api.OK {
		t.Errorf("a world with just as many words as it needs: %v", e)
	}
	for limit := 64; limit < used; limit += 1 + limit%7 {
		w2, e := lib.New(limit, 1)
		if w2 != nil || e != api.ErrWords {
			t.Errorf("a world with %d words: %v", limit, e)
		}
	}
	w2, e := lib.New(used-1, 1)
	equal(t, "a world with one word less", []any{w2 == nil, e}, []any{true, api.ErrWords})
	// NIL, T, the builtin functions and the types are interned in this order, and exported
	names := append([]string{"NIL", "T"}, lib.Names()...)
	for _, name := range strings.Fields("LIST SEQUENCE SYMBOL NUMBER REAL RATIONAL INTEGER UNSIGNED-BYTE CHARACTER STRING ARRAY HASH-TABLE CONS FUNCTION") {
		if !slices.Contains(names, name) {
			names = append(names, name)
		}
	}
	for i, name := range names {
		n, status, e := w.Symbols().Find("COMMON-LISP", name)
		equal(t, name, []any{n, status, e}, []any{i, symbols.External, api.OK})
	}
	if _, _, e := w.Symbols().Symbol(len(names)); e != api.ErrNone {
		t.Error("there are more symbols")
	}
	p := w.Parts()
	equal(t, "the symbols that have objects", len(p.Numbers), len(lib.Names())+2)
	equal(t, "the roots", len(w.Heap().Roots()), len(p.Numbers))
	equal(t, "the output and the counter", []any{w.Output(), p.Counter}, []any{"", 0})
	h := w.Heap()
	for i, name := range names[:len(lib.Names())+2] {
		x := symbol(t, w, "COMMON-LISP", name)
		number, _ := h.Get(x, 0)
		text, _ := h.Get(x, 1)
		value, _ := h.Get(x, 2)
		function, _ := h.Get(x, 3)
		list, _ := h.Get(x, 4)
		bytes, _ := h.Bytes(text)
		equal(t, name, []any{h.Kind(x), h.Len(x), number, h.Kind(text), bytes, list}, []any{heap.KindSymbol, 5, fix(i), heap.KindString, name, heap.Nil})
		if i < 2 {
			equal(t, "the value and function of "+name, []any{value, function}, []any{x, heap.Unbound})
			continue
		}
		index, _ := h.Get(function, 0)
		equal(t, "the value and function of "+name, []any{value, h.Kind(function), h.Len(function), index}, []any{heap.Unbound, heap.KindBuiltin, 1, fix(i - 2)})
	}
	equal(t, "NIL", symbol(t, w, "COMMON-LISP", "NIL"), heap.Nil)
}

// P20.1: of a nil world all functions return ErrArg, or zero values; one that New did not return is as good as nil.
func TestNil(t *testing.T) {
	for _, w := range []*lib.World{nil, {}} {
		if w.Heap() != nil || w.Symbols() != nil || w.Output() != "" || w.Extra("x") != nil || !reflect.DeepEqual(w.Parts(), lib.Parts{}) {
			t.Error("a nil world has something")
		}
		w.SetExtra("x", 5)
		x1, e1 := w.Symbol("COMMON-LISP", "NIL")
		home, name, e2 := w.Name(heap.Nil)
		x3, e3 := w.Value(heap.Nil)
		x4, e4 := w.Function(heap.Nil)
		x5, e5 := w.Build(forms.Nil())
		f, e6 := w.Show(heap.Nil)
		equal(t, "other results", []any{x1, home, name, x3, x4, x5, f}, []any{0, "", "", 0, 0, 0, api.Form{}})
		e7 := w.Register("X", 0, 0, func([]heap.Word) lib.Answer { return lib.Answer{} })
		for i, e := range []api.Errno{e1, e2, e3, e4, e5, e6, e7, w.SetValue(heap.Nil, 0), w.SetFunction(heap.Nil, 0), w.Print("")} {
			fails(t, fmt.Sprint("call ", i), e, api.ErrArg)
		}
		equal(t, "Call", w.Call(heap.Nil, nil), lib.Answer{Kind: lib.AnswerLimit, Code: api.ErrArg})
	}
}

// The kinds of answers and ends, and the code of this layer.
func TestConstants(t *testing.T) {
	equal(t, "answers", []int{lib.AnswerValues, lib.AnswerFault, lib.AnswerNext, lib.AnswerLimit}, []int{0, 1, 2, 3})
	equal(t, "ends", []int{lib.EndValues, lib.EndFault, lib.EndThrow, lib.EndLimit, lib.EndBad}, []int{0, 1, 2, 3, 4})
	equal(t, "the code", lib.ErrNoSymbol, api.Errno(220))
}

// P20.1: objects of symbols are made when they are needed first.
func TestSymbol(t *testing.T) {
	w := newWorld(t)
	before := w.Heap().Used()
	x := symbol(t, w, "COMMON-LISP-USER", "SOMETHING")
	equal(t, "its words", w.Heap().Used()-before, 6+1+2)
	equal(t, "once more", []any{symbol(t, w, "CL-USER", "SOMETHING"), w.Heap().Used() - before}, []any{x, 9})
	home, name, e := w.Name(x)
	equal(t, "Name", []any{home, name, e}, []any{"COMMON-LISP-USER", "SOMETHING", api.OK})
	equal(t, "an inherited symbol", symbol(t, w, "COMMON-LISP-USER", "CAR"), symbol(t, w, "CL", "CAR"))
	key := symbol(t, w, "KEYWORD", "K")
	value, e := w.Value(key)
	equal(t, "the value of a keyword", []any{value, e}, []any{key, api.OK})
	for _, c := range []struct {
		home, name string
		want       api.Errno
	}{{"NOWHERE", "X", api.ErrNone}, {"CL", strings.Repeat("x", 61), api.ErrSize}, {strings.Repeat("x", 61), "X", api.ErrSize}, {"", "X", api.ErrNone}} {
		got, e := w.Symbol(c.home, c.name)
		equal(t, "Symbol", []any{got, e}, []any{0, c.want})
	}
	text := w.Symbols().Text()
	fill(w, 7)
	got, e := w.Symbol("CL-USER", "A")
	equal(t, "Symbol without room", []any{got, e, w.Symbols().Text() == text}, []any{0, api.ErrWords, true})
	w2 := newWorld(t)
	fill(w2, 8)
	if _, e := w2.Symbol("CL-USER", "A"); e != api.OK {
		t.Errorf("Symbol with just as much room as it needs: %v", e)
	}
	for {
		if _, e := w.Symbols().Fresh("X"); e != api.OK {
			break
		}
	}
	_, e = w.Symbol("CL-USER", "A")
	fails(t, "Symbol of a full table", e, api.ErrFull)
	x, e = w.Symbol("CL-USER", "SOMETHING")
	equal(t, "one that is there", []any{x != 0, e}, []any{true, api.OK})
}

// P20.1, P20.6: values and functions of symbols.
func TestValues(t *testing.T) {
	w := newWorld(t)
	x, truth, key := symbol(t, w, "CL-USER", "X"), symbol(t, w, "CL", "T"), symbol(t, w, "KEYWORD", "K")
	fails(t, "SetValue", w.SetValue(x, fix(5)), api.OK)
	fails(t, "SetFunction", w.SetFunction(x, fix(6)), api.OK)
	value, e := w.Value(x)
	equal(t, "Value", []any{value, e}, []any{fix(5), api.OK})
	function, e := w.Function(x)
	equal(t, "Function", []any{function, e}, []any{fix(6), api.OK})
	fails(t, "SetValue to Unbound", w.SetValue(x, heap.Unbound), api.OK)
	fails(t, "SetFunction to Unbound", w.SetFunction(x, heap.Unbound), api.OK)
	value, _ = w.Value(x)
	function, _ = w.Function(x)
	equal(t, "both", []heap.Word{value, function}, []heap.Word{heap.Unbound, heap.Unbound})
	for _, c := range []heap.Word{heap.Nil, truth, key} {
		fails(t, "SetValue of a constant", w.SetValue(c, fix(1)), api.ErrArg)
		fails(t, "SetValue of a constant to a bad word", w.SetValue(c, 4), api.ErrArg)
		fails(t, "SetFunction of a constant", w.SetFunction(c, fix(1)), api.OK)
		fails(t, "SetFunction of a constant to Unbound", w.SetFunction(c, heap.Unbound), api.ErrArg)
		value, _ := w.Value(c)
		equal(t, "its value", value, c)
	}
	fails(t, "a bad word", w.SetValue(x, 4), heap.ErrWord)
	fails(t, "a reference to no object", w.SetFunction(x, heap.Word(1<<40|3)), heap.ErrWord)
	for _, c := range []heap.Word{0, 4, heap.Unbound, object(t, w, "(1)"), object(t, w, "\"a\"")} {
		_, e1 := w.Value(c)
		_, e2 := w.Function(c)
		home, name, e3 := w.Name(c)
		equal(t, "Name of no symbol", []any{home, name}, []any{"", ""})
		for _, e := range []api.Errno{e1, e2, e3, w.SetValue(c, 4), w.SetFunction(c, 4)} {
			fails(t, "no symbol", e, lib.ErrNoSymbol)
		}
	}
	home, name, e := w.Name(object(t, w, "#:x"))
	equal(t, "Name of a symbol without a home", []any{home, name, e}, []any{"", "X", api.OK})
	forged, _ := w.Heap().New(heap.KindSymbol, 5)
	_, _, e = w.Name(forged)
	fails(t, "an object that looks like a symbol", e, lib.ErrNoSymbol)
	w.Heap().Set(forged, 0, fix(5000))
	_, _, e = w.Name(forged)
	fails(t, "one with a number that is none", e, lib.ErrNoSymbol)
	equal(t, "its Show", text(w, forged), "?4")
}

// P20.1: the output, extras.
func TestExtras(t *testing.T) {
	w := newWorld(t)
	fails(t, "Print", w.Print("ab"), api.OK)
	fails(t, "Print", w.Print("ä"), api.OK)
	equal(t, "Output", w.Output(), "abä")
	equal(t, "Extra", w.Extra("x"), nil)
	w.SetExtra("x", 5)
	w.SetExtra("y", "z")
	equal(t, "Extra", []any{w.Extra("x"), w.Extra("y")}, []any{5, "z"})
	w.SetExtra("x", nil)
	equal(t, "Extra", []any{w.Extra("x"), w.Extra("y")}, []any{nil, "z"})
}

// P20.1: builtin functions that are added.
func TestRegister(t *testing.T) {
	w := newWorld(t)
	var got []heap.Word
	f := func(args []heap.Word) lib.Answer {
		got = args
		return lib.Answer{Kind: lib.AnswerLimit, Code: 77}
	}
	fails(t, "Register", w.Register("NEW", 1, 2, f), api.OK)
	fails(t, "Register", w.Register("ANY", 0, -1, f), api.OK)
	fails(t, "Register", w.Register("NONE", 0, 0, f), api.OK)
	n, status, _ := w.Symbols().Find("COMMON-LISP-USER", "NEW")
	equal(t, "its symbol", []any{n > 0, status}, []any{true, symbols.Inherited})
	for i, name := range []string{"NEW", "ANY", "NONE"} {
		function, _ := w.Function(symbol(t, w, "COMMON-LISP", name))
		index, _ := w.Heap().Get(function, 0)
		equal(t, name, []any{w.Heap().Kind(function), index}, []any{heap.KindBuiltin, fix(len(lib.Names()) + i)})
	}
	calls(t, w, []line{{"(new)", "! PROGRAM-ERROR new"}, {"(new 1 2 3)", "! PROGRAM-ERROR new"}, {"(new 1)", "limit 77"}, {"(new 1 2)", "limit 77"}, {"(any)", "limit 77"}, {"(any 1 2 3 4 5)", "limit 77"}, {"(none)", "limit 77"}, {"(none 1)", "! PROGRAM-ERROR none"}, {"(funcall any 1)", "limit 77"}, {"(apply new (1 2 3))", "! PROGRAM-ERROR new"}})
	called(t, w, "(any 1 2)")
	equal(t, "the arguments", got, []heap.Word{fix(1), fix(2)})
	for _, c := range []struct {
		name  string
		least int
		f     func([]heap.Word) lib.Answer
		want  api.Errno
	}{
		{"NEW", 0, f, api.ErrTwice}, {"CAR", 0, f, api.ErrTwice}, {"CAR", -1, nil, api.ErrTwice}, {"X1", 0, nil, api.ErrArg}, {"X1", -1, f, api.ErrArg}, {strings.Repeat("x", 61), 0, f, api.ErrSize},
	} {
		fails(t, "Register of "+c.name, w.Register(c.name, c.least, 5, c.f), c.want)
	}
	// a symbol that was there, also with a function
	x := object(t, w, "other")
	before := w.Symbols().Text()
	fails(t, "a name that clashes", w.Register("OTHER", 0, 0, f), symbols.ErrClash)
	equal(t, "the packages behind it", w.Symbols().Text(), before)
	fails(t, "Shadow", w.Symbols().Shadow("COMMON-LISP-USER", "OTHER"), api.OK)
	fails(t, "a name that is shadowed", w.Register("OTHER", 0, 0, f), api.OK)
	equal(t, "the other symbol", object(t, w, "other"), x)
	car, _ := w.Function(symbol(t, w, "COMMON-LISP", "CAR"))
	w.SetFunction(symbol(t, w, "COMMON-LISP", "INTERNAL"), car)
	fails(t, "a symbol with a function", w.Register("INTERNAL", 0, 0, f), api.OK)
	equal(t, "it", answered(w, answer(t, w, "INTERNAL")), "limit 77")
	// an answer of an added function is not looked at, and one that panics ends
	fails(t, "Register", w.Register("PANICS", 0, 0, func([]heap.Word) lib.Answer { panic("broken") }), api.OK)
	equal(t, "one that panics", answer(t, w, "PANICS").Kind, lib.AnswerLimit)
	fails(t, "Register", w.Register("NEXT", 0, 0, func([]heap.Word) lib.Answer { return lib.Answer{Kind: lib.AnswerNext, Function: car} }), api.OK)
	equal(t, "one that wants a call", answered(w, answer(t, w, "NEXT")), "> %::builtin")
	fill(w, 9)
	before = w.Symbols().Text()
	fails(t, "without room", w.Register("X2", 0, 0, f), api.ErrWords)
	equal(t, "the packages behind it", w.Symbols().Text(), before)
	for {
		if _, e := w.Symbols().Fresh("X"); e != api.OK {
			break
		}
	}
	fails(t, "of a full table", w.Register("X2", 0, 0, f), api.ErrFull)
	w = newWorld(t)
	fill(w, 10)
	fails(t, "with just as much room as it needs", w.Register("X2", 0, 0, f), api.OK)
}

// P20.1: Parts of a world, and Restore of them.
func TestRestore(t *testing.T) {
	w := newWorld(t)
	calls(t, w, []line{{"(set x (1 #1=\"a\" #1#))", "(1 #0=\"a\" #0#)"}, {"(%fset f car)", "%::builtin"}, {"(gensym)", "#:g0"}, {"(princ \"out\")", "\"out\""}, {"(%set-plist nil (p))", "(p)"}})
	extra := object(t, w, "(z z)")
	w.SetExtra("x", 5)
	p, cells, fields := saved(t, w, extra)
	for i, n := range p.Numbers {
		name, home, _ := w.Symbols().Symbol(n)
		if home != "" {
			equal(t, name, symbol(t, w, home, name), p.Words[i])
		}
	}
	equal(t, "the parts", []any{p.Output, p.Counter, p.Table == w.Symbols().Text(), p.Numbers[0], slices.IsSorted(p.Numbers)}, []any{"out", 1, true, 0, true})
	w2, words, e := lib.Restore(60000, 500, p, cells, fields)
	fails(t, "Restore", e, api.OK)
	equal(t, "the words", texts(w2, words), "(z z)")
	equal(t, "the heap", []any{w2.Heap().Limit(), w2.Output(), w2.Extra("x")}, []any{60000, "out", nil})
	calls(t, w2, []line{{"(symbol-value x)", "(1 #0=\"a\" #0#)"}, {"(f (7))", "7"}, {"(gensym)", "#:g1"}, {"(symbol-plist nil)", "(p)"}, {"(cons 1 2)", "(1 . 2)"}, {"(null 1)", "nil"}, {"(null nil)", "t"}, {"(set nil 1)", "! PROGRAM-ERROR nil"}, {"(car 5)", "! TYPE-ERROR 5 list"}, {"(intern \"NEW\")", "new nil"}})
	p2, cells2, fields2 := saved(t, w2, words...)
	if p2.Table == p.Table || len(cells2) <= len(cells) || len(fields2) <= len(fields) {
		t.Error("the parts of a world that went on")
	}
	w3, words3, e := lib.Restore(60000, 500, p2, cells2, fields2)
	fails(t, "Restore again", e, api.OK)
	p3, cells3, fields3 := saved(t, w3, words3...)
	p2.Words, p3.Words = nil, nil
	equal(t, "its parts", fmt.Sprint(p3, cells3, fields3), fmt.Sprint(p2, cells2, fields2))
	// added functions have the same index in a restored world
	f := func(args []heap.Word) lib.Answer { return lib.Answer{Values: args} }
	fails(t, "Register", w.Register("ADDED", 0, 1, f), api.OK)
	p, cells, fields = saved(t, w)
	w4, _, e := lib.Restore(60000, 500, p, cells, fields)
	fails(t, "Restore", e, api.OK)
	equal(t, "one that is not there yet", called(t, w4, "(added 1)"), "! TYPE-ERROR %::builtin function")
	fails(t, "Register", w4.Register("ADDED", 0, 1, f), api.OK)
	equal(t, "one that was added", called(t, w4, "(added 1)"), "1")
}

// saved returns the parts of a world, with the graph of its symbols, of the first object, and of some words.
func saved(t *testing.T, w *lib.World, words ...heap.Word) (lib.Parts, []heap.Cell, []heap.Field) {
	t.Helper()
	p := w.Parts()
	all := slices.Clone(p.Words)
	for i := range 5 {
		x, _ := w.Heap().Get(heap.Nil, i)
		all = append(all, x)
	}
	cells, fields, e := w.Heap().Cells(append(all, words...))
	fails(t, "Cells", e, api.OK)
	return p, cells, fields
}

// P20.1: parts of which no world can be made, and which error is named first.
func TestRestoreErrors(t *testing.T) {
	w := newWorld(t)
	object(t, w, "x")
	p, cells, fields := saved(t, w, heap.Nil)
	n := len(p.Numbers)
	nilField, fixField := heap.Field{Object: -2}, func(n int) heap.Field { return heap.Field{Word: fix(n), Object: -1} }
	cell := func(kind int, fields ...heap.Field) heap.Cell { return heap.Cell{Kind: kind, Fields: fields} }
	name := func(s string) heap.Cell { return heap.Cell{Kind: heap.KindString, Raw: true, Bytes: s} }
	ref := func(i int) heap.Field { return heap.Field{Object: i} }
	tiny := lib.Parts{Table: symbolsText("NIL", "A"), Numbers: []int{0, 1}}
	first := []heap.Field{fixField(0), ref(0), nilField, nilField, nilField}
	good := []heap.Cell{name("NIL"), cell(heap.KindSymbol, fixField(1), ref(2), nilField, nilField, nilField), name("A")}
	with := func(second, text heap.Cell) []heap.Cell { return []heap.Cell{name("NIL"), second, text} }
	tinyFields := append([]heap.Field{nilField, ref(1)}, first...)
	for i, c := range []struct {
		limit, young int
		p            func(lib.Parts) lib.Parts
		cells        []heap.Cell
		fields       []heap.Field
		want         api.Errno
	}{
		{65536, 100, func(p lib.Parts) lib.Parts { p.Table = "x"; p.Output = strings.Repeat("x", 20001); return p }, cells, fields, api.ErrForm},
		{65536, 100, func(p lib.Parts) lib.Parts { p.Table = ""; return p }, cells, fields, api.ErrForm},
		{65536, 100, func(p lib.Parts) lib.Parts { p.Table = strings.Repeat("x", 200001); return p }, cells, fields, api.ErrForm},
		{65536, 100, func(p lib.Parts) lib.Parts { p.Output = strings.Repeat("x", 20001); p.Counter = -1; return p }, cells, fields, api.ErrLarge},
		{65536, 100, func(p lib.Parts) lib.Parts { p.Output = strings.Repeat("x", 20000); p.Counter = 1 << 40; return p }, cells, fields, api.OK},
		{10, 0, func(p lib.Parts) lib.Parts { p.Counter = -1; return p }, cells, fields, api.ErrArg},
		{65536, 100, func(p lib.Parts) lib.Parts { p.Numbers = nil; return p }, cells, fields, api.ErrArg},
		{65536, 100, func(p lib.Parts) lib.Parts { p.Numbers = p.Numbers[1:]; return p }, cells, fields[1:], api.ErrArg},
		{65536, 100, func(p lib.Parts) lib.Parts { p.Numbers = []int{0, 2, 1}; return p }, cells, fields, api.ErrArg},
		{65536, 100, func(p lib.Parts) lib.Parts { p.Numbers = []int{0, 1, 1}; return p }, cells, fields, api.ErrArg},
		{65536, 100, func(p lib.Parts) lib.Parts { p.Numbers = []int{0, 1, 5000}; return p }, cells, fields, api.ErrArg},
		{65536, 100, func(p lib.Parts) lib.Parts { p.Numbers = []int{-1, 0}; return p }, cells, fields, api.ErrArg},
		{65536, 100, nil, cells, fields[:n+4], api.ErrArg},
		{65536, 100, nil, cells, fields[:n+5], api.OK},
		{63, 1, nil, cells, fields, api.ErrArg}, {100, 101, nil, nil, fields, api.ErrArg},
		{65536, 100, nil, cells[:5], fields, heap.ErrWord}, {100, 100, nil, cells, fields, api.ErrWords}, {65536, 100, nil, []heap.Cell{{Kind: 99}}, fields, api.ErrArg},
		{64, 64, func(lib.Parts) lib.Parts { return tiny }, good, tinyFields, api.OK},
		{64, 64, func(lib.Parts) lib.Parts { return tiny }, good, append([]heap.Field{ref(1), ref(1)}, first...), lib.ErrNoSymbol},
		{64, 64, func(lib.Parts) lib.Parts { return tiny }, good, append([]heap.Field{nilField, nilField}, first...), lib.ErrNoSymbol},
		{64, 64, func(lib.Parts) lib.Parts { return tiny }, good, append([]heap.Field{nilField, fixField(1)}, first...), lib.ErrNoSymbol},
		{64, 64, func(lib.Parts) lib.Parts { return tiny }, good, append([]heap.Field{nilField, ref(1), fixField(1)}, first[1:]...), lib.ErrNoSymbol},
		{64, 64, func(lib.Parts) lib.Parts { return tiny }, good, append([]heap.Field{nilField, ref(1), fixField(0), ref(2)}, first[2:]...), lib.ErrNoSymbol},
		{64, 64, func(lib.Parts) lib.Parts { return tiny }, with(cell(heap.KindVector, fixField(1), ref(2), nilField, nilField, nilField), name("A")), tinyFields, lib.ErrNoSymbol},
		{64, 64, func(lib.Parts) lib.Parts { return tiny }, with(cell(heap.KindSymbol, fixField(2), ref(2), nilField, nilField, nilField), name("A")), tinyFields, lib.ErrNoSymbol},
		{64, 64, func(lib.Parts) lib.Parts { return tiny }, with(cell(heap.KindSymbol, ref(2), ref(2), nilField, nilField, nilField), name("A")), tinyFields, lib.ErrNoSymbol},
		{64, 64, func(lib.Parts) lib.Parts { return tiny }, with(cell(heap.KindSymbol, fixField(1), ref(2), nilField, nilField, nilField), name("B")), tinyFields, lib.ErrNoSymbol},
		{64, 64, func(lib.Parts) lib.Parts { return tiny }, with(cell(heap.KindSymbol, fixField(1), ref(2), nilField, nilField, nilField), heap.Cell{Kind: heap.KindBits, Raw: true, Bytes: "A"}), tinyFields, lib.ErrNoSymbol},
		{64, 64, func(lib.Parts) lib.Parts { return tiny }, with(cell(heap.KindSymbol, fixField(1), fixField(5), nilField, nilField, nilField), name("A")), tinyFields, lib.ErrNoSymbol},
		{64, 64, func(lib.Parts) lib.Parts { return tiny }, with(cell(heap.KindSymbol, fixField(1)), name("A")), tinyFields, lib.ErrNoSymbol},
		{64, 64, func(lib.Parts) lib.Parts { return tiny }, with(heap.Cell{Kind: heap.KindSymbol, Raw: true, Bytes: "12345"}, name("A")), tinyFields, lib.ErrNoSymbol},
	} {
		q := p
		if c.p != nil {
			q = c.p(q)
		}
		w, words, e := lib.Restore(c.limit, c.young, q, c.cells, c.fields)
		if fails(t, fmt.Sprint("Restore ", i), e, c.want); e != api.OK && (w != nil || words != nil) {
			t.Errorf("Restore %d returned a world with an error", i)
		}
	}
}

// symbolsText returns the text of a table with some symbols of COMMON-LISP.
func symbolsText(names ...string) string {
	t := symbols.New()
	for _, name := range names {
		t.Intern("COMMON-LISP", name)
	}
	return t.Text()
}
