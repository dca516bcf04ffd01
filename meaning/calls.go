package meaning

import (
	"commonform/api"
	"commonform/heap"
	"commonform/lib"
)

// entering binds the parameters of a closure one by one.
type entering struct {
	lasting
	place               // of its lambda, with what is bound so far
	par     int         // the parameter that is next
	init    int         // the kid that is its init, or that of the next one that has one
	args    []heap.Word // those that no required or optional parameter has got
	closure heap.Word
}

// call calls a function.
func (r *run) call(function heap.Word, args []heap.Word) {
	f := function
	if r.h.Kind(f) == heap.KindSymbol {
		f, _ = r.w.Function(f)
	}
	switch r.h.Kind(f) {
	case heap.KindClosure:
		r.apply(f, args)
	case heap.KindCode:
		r.compiled(f, args)
	default:
		r.builtin(function, args)
	}
}

// around calls what may begin runs that are parts of this one.
func (r *run) around(call func()) {
	r.going.Frames = r.base + len(r.frames) + 1
	call()
	if r.going.Crossed() {
		r.limited(ErrCross)
	}
}

// builtin calls a builtin function.
func (r *run) builtin(function heap.Word, args []heap.Word) {
	call := r.w.Call
	var answer lib.Answer
	r.around(func() { answer = call(function, args) })
	switch answer.Kind {
	case lib.AnswerValues:
		r.gives(answer.Values...)
	case lib.AnswerFault:
		r.fault(answer.Fault)
	case lib.AnswerNext:
		r.calls(answer.Function, answer.Values)
	default:
		r.limited(answer.Code)
	}
}

// compiled calls a compiled function, if another road does that for this world.
func (r *run) compiled(function heap.Word, args []heap.Word) {
	apply, ok := r.w.Extra("apply").(func(heap.Word, []heap.Word, int) (lib.End, int))
	if !ok || apply == nil {
		r.fault(lib.Fault{Type: "CONTROL-ERROR", Data: []heap.Word{function}})
		return
	}
	var end lib.End
	n := 0
	r.around(func() { end, n = apply(function, args, r.limit-r.steps) })
	if r.steps += max(n, 0); r.steps > r.limit {
		r.steps = r.limit
		r.limited(api.ErrSteps)
	}
	switch end.Kind {
	case lib.EndValues:
		r.gives(end.Values...)
	case lib.EndFault:
		r.leaves(exit{to: outside, end: lib.End{Kind: lib.EndFault, Fault: end.Fault}})
	case lib.EndLimit:
		r.limited(end.Code)
	default:
		r.refused(end.Code)
	}
}

// apply calls a closure.
func (r *run) apply(closure heap.Word, args []heap.Word) {
	l, ok := r.kept.lambda(r.w, closure)
	if !ok {
		r.fault(lib.Fault{Type: "CONTROL-ERROR", Data: []heap.Word{closure}})
		return
	}
	if !r.fits(l.node, args) {
		r.fault(lib.Fault{Type: "PROGRAM-ERROR", Data: []heap.Word{closure}})
		return
	}
	env, _ := r.h.Get(closure, 1)
	r.enter(&entering{place: place{l.node, l.program, env}, args: args, closure: closure})
}

// fits reports whether a lambda takes arguments.
func (r *run) fits(c *api.Core, args []heap.Word) bool {
	least, most, rest, keys := 0, 0, false, c.N == 1
	for _, p := range c.Pars {
		switch p.Kind {
		case api.ParamRequired:
			least++
			most++
		case api.ParamOptional:
			most++
		case api.ParamRest:
			rest = true
		case api.ParamKey:
			keys = true
		}
	}
	if len(args) < least || len(args) > most && !rest && !keys {
		return false
	}
	left := args[min(most, len(args)):]
	return !keys || len(left)%2 == 0 && r.fitting(c, left)
}

// fitting reports whether keys are symbols, and may be there.
func (r *run) fitting(c *api.Core, left []heap.Word) bool {
	allow := api.Form{Kind: api.FormSymbol, Home: "KEYWORD", Text: "ALLOW-OTHER-KEYS"}
	allowed, known := c.N == 1, true
	if x, ok := r.found(left, allow); ok && x != heap.Nil {
		allowed = true
	}
	for i := 0; i < len(left); i += 2 {
		if r.h.Kind(left[i]) != heap.KindSymbol {
			return false
		}
		one := r.names(left[i], allow)
		for _, p := range c.Pars {
			one = one || p.Kind == api.ParamKey && r.names(left[i], p.Key)
		}
		known = known && one
	}
	return known || allowed
}

// names reports whether an object is a symbol with the home and the name of a key.
func (r *run) names(x heap.Word, key api.Form) bool {
	home, name, e := r.w.Name(x)
	return e == api.OK && home == key.Home && name == key.Text
}

// found returns the value behind the first key that is this one.
func (r *run) found(left []heap.Word, key api.Form) (heap.Word, bool) {
	for i := 0; i+1 < len(left); i += 2 {
		if r.names(left[i], key) {
			return left[i+1], true
		}
	}
	return 0, false
}

// enter binds parameters, up to one whose init must be evaluated, and goes on with the body behind the last one.
func (r *run) enter(f *entering) {
	for f.par < len(f.node.Pars) {
		p := f.node.Pars[f.par]
		var x heap.Word
		given := true
		switch p.Kind {
		case api.ParamRequired, api.ParamOptional:
			if given = len(f.args) > 0; given {
				x, f.args = f.args[0], f.args[1:]
			}
		case api.ParamRest:
			x = r.list(f.args)
		case api.ParamKey:
			x, given = r.found(f.args, p.Key)
		}
		if !given {
			r.push(f)
			r.begins(f.kid(f.init))
			return
		}
		f.take(r, x, true)
	}
	r.body(f.place, f.env)
}

// take binds the next parameter to a value: that of an argument, if it was given, or of its init.
func (f *entering) take(r *run, x heap.Word, given bool) {
	p := f.node.Pars[f.par]
	f.par++
	if p.Kind == api.ParamOptional || p.Kind == api.ParamKey {
		f.init++
	}
	f.env = r.with(f.env, p.Var, x)
	if p.Given >= 0 {
		f.env = r.with(f.env, p.Given, r.truth(given))
	}
}

// fault calls the function of %FAULT, if there is one; if it returns, the run ends.
func (r *run) fault(f lib.Fault) {
	handler, e := r.w.Symbol(lisp, "%FAULT")
	if e == api.ErrWords {
		r.limited(e)
	}
	function, _ := r.w.Function(handler)
	kind := r.h.Kind(function)
	if e != api.OK || kind != heap.KindBuiltin && kind != heap.KindClosure && kind != heap.KindCode {
		r.leaves(exit{to: outside, end: lib.End{Kind: lib.EndFault, Fault: f}})
		return
	}
	args := []heap.Word{r.lisp(f.Type), r.list(f.Data)}
	r.push(&faulting{fault: f})
	r.calls(function, args)
}
