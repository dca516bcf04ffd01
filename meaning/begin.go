package meaning

import (
	"commonform/api"
	"commonform/heap"
	"commonform/lib"
)

const lisp = "COMMON-LISP"

// begin begins a node.
func (r *run) begin(p place) {
	switch p.node.Op {
	case api.CoreConst:
		r.gives(r.constant(p.node))
	case api.CoreVar:
		x, _ := r.h.Get(r.cell(p.env, p.node.N), 0)
		r.gives(x)
	case api.CoreSpecial:
		r.special(r.symbol(p.node.Data))
	case api.CoreFunction:
		if f, ok := r.function(r.symbol(p.node.Data)); ok {
			r.gives(f)
		}
	case api.CoreLambda:
		r.gives(r.closure(p))
	case api.CoreProgn:
		r.sequence(&sequence{place: p})
	case api.CoreLabels:
		r.labels(p)
	case api.CoreBlock:
		r.block(p)
	case api.CoreReturn:
		r.push(&returning{place: p})
		r.begins(p.kid(0))
	case api.CoreTagbody:
		r.tagbody(p)
	case api.CoreGo:
		r.goes(p)
	case api.CoreProtect:
		r.push(&protecting{place: p})
		r.begins(p.kid(0))
	case api.CoreValuesFirst:
		r.push(&keeping{place: p})
		r.begins(p.kid(0))
	default:
		r.gather(&gathering{place: p})
	}
}

// constant returns the object of a CoreConst, which is the same one throughout a run.
func (r *run) constant(node *api.Core) heap.Word {
	known := r.going.Constants()
	if root, ok := known[node]; ok {
		x, _ := r.h.At(root)
		return x
	}
	x, e := r.w.Build(node.Data)
	if e != api.OK {
		r.refused(e)
	}
	known[node] = r.h.Root(x)
	return x
}

// symbol returns the object of a symbol of the tree.
func (r *run) symbol(f api.Form) heap.Word {
	x, e := r.w.Symbol(f.Home, f.Text)
	if e != api.OK {
		r.refused(e)
	}
	return x
}

// lisp returns a symbol of COMMON-LISP.
func (r *run) lisp(name string) heap.Word {
	return r.symbol(api.Form{Kind: api.FormSymbol, Home: lisp, Text: name})
}

// made returns an object that was made; without room the run ends.
func (r *run) made(x heap.Word, e api.Errno) heap.Word {
	if e != api.OK {
		r.limited(api.ErrWords)
	}
	return x
}

// object makes an object with some fields.
func (r *run) object(kind int, fields ...heap.Word) heap.Word {
	x := r.made(r.h.New(kind, len(fields)))
	for i, y := range fields {
		r.h.Set(x, i, y)
	}
	return x
}

// list makes a list.
func (r *run) list(l []heap.Word) heap.Word {
	x := heap.Nil
	for i := len(l) - 1; i >= 0; i-- {
		x = r.object(heap.KindCons, l[i], x)
	}
	return x
}

// truth returns T or NIL.
func (r *run) truth(b bool) heap.Word {
	if b {
		return r.lisp("T")
	}
	return heap.Nil
}

// fixnum returns the fixnum of a small number.
func fixnum(n int) heap.Word {
	x, _ := heap.Fix(int64(n))
	return x
}

// with returns an environment with a new cell for a number in front.
func (r *run) with(env heap.Word, n int, x heap.Word) heap.Word {
	cell := r.object(heap.KindBox, x)
	return r.object(heap.KindCons, r.object(heap.KindCons, fixnum(n), cell), env)
}

// cell returns the first cell of a number in an environment. (An environment that others have changed may have none, or no end.)
func (r *run) cell(env heap.Word, n int) heap.Word {
	for range r.h.Limit() {
		if r.h.Kind(env) != heap.KindCons {
			break
		}
		pair, _ := r.h.Get(env, 0)
		if key, e := r.h.Get(pair, 0); e == api.OK && key == fixnum(n) {
			if cell, _ := r.h.Get(pair, 1); r.h.Kind(cell) == heap.KindBox {
				return cell
			}
		}
		env, _ = r.h.Get(env, 1)
	}
	r.refused(api.ErrForm)
	return 0
}

// special gives the value of a symbol.
func (r *run) special(symbol heap.Word) {
	x, _ := r.w.Value(symbol)
	if x == heap.Unbound {
		r.fault(lib.Fault{Type: "UNBOUND-VARIABLE", Data: []heap.Word{symbol}})
		return
	}
	r.gives(x)
}

// function returns the function of a symbol; without one it goes on with a fault.
func (r *run) function(symbol heap.Word) (heap.Word, bool) {
	f, _ := r.w.Function(symbol)
	if f == heap.Unbound {
		r.fault(lib.Fault{Type: "UNDEFINED-FUNCTION", Data: []heap.Word{symbol}})
		return 0, false
	}
	return f, true
}

// closure makes a closure.
func (r *run) closure(p place) heap.Word {
	i := r.kept.index(lambda{p.node, p.program})
	return r.object(heap.KindClosure, fixnum(i), p.env)
}

// sequence begins the next kid of a CoreProgn.
func (r *run) sequence(f *sequence) {
	left := len(f.node.Kids) - f.kid
	if left == 0 {
		r.gives(heap.Nil)
		return
	}
	p := f.place.kid(f.kid)
	f.kid++
	if left > 1 {
		r.push(f)
	}
	r.begins(p)
}

// body goes on with the last kid in an environment.
func (r *run) body(p place, env heap.Word) {
	last := p.kid(len(p.node.Kids) - 1)
	last.env = env
	r.begins(last)
}

func (r *run) labels(p place) {
	for _, n := range p.node.Vars {
		p.env = r.with(p.env, n, heap.Nil)
	}
	for i, n := range p.node.Vars {
		r.h.Set(r.cell(p.env, n), 0, r.closure(p.kid(i)))
	}
	r.body(p, p.env)
}

// named returns an environment in which closures find a block or tagbody by an id, if some leave it.
func (r *run) named(p place, key int) (id int, env heap.Word) {
	if !p.program.captured[key] {
		return none, p.env
	}
	id = r.kept.ids
	r.kept.ids++
	return id, r.with(p.env, key, fixnum(id))
}

func (r *run) block(p place) {
	n := p.node.N
	if !p.program.returned[n] {
		r.begins(p.kid(0))
		return
	}
	id, env := r.named(p, blockKey(n))
	r.push(&block{program: p.program, number: n, id: id})
	r.body(p, env)
}

func (r *run) tagbody(p place) {
	f := &tagbody{place: p, key: none, id: none}
	if len(p.node.Vars) > 0 {
		f.key = tagsKey(p.node.Vars[0])
		f.id, f.env = r.named(p, f.key)
	}
	r.segment(f)
}

// segment begins a segment of a tagbody.
func (r *run) segment(f *tagbody) {
	if f.segment == len(f.node.Kids) {
		r.gives(heap.Nil)
		return
	}
	p := f.kid(f.segment)
	f.segment++
	r.push(f)
	r.begins(p)
}

// wanted returns of how many kids the first values are gathered ahead of all else.
func wanted(c *api.Core) int {
	switch c.Op {
	case api.CoreCall, api.CoreCallGlobal:
		return len(c.Kids)
	case api.CoreLet:
		return len(c.Vars)
	case api.CoreBind:
		return len(c.Syms)
	case api.CoreProgv:
		return 2
	}
	return 1
}

// gather begins the next kid whose value is wanted.
func (r *run) gather(f *gathering) {
	n := len(f.words)
	if n == wanted(f.node) {
		r.gathered(f.place, f.words)
		return
	}
	r.push(f)
	r.begins(f.kid(n))
}

// gathered goes on with the values that are wanted.
func (r *run) gathered(p place, words []heap.Word) {
	switch p.node.Op {
	case api.CoreSet:
		r.h.Set(r.cell(p.env, p.node.N), 0, words[0])
		r.gives(words[0])
	case api.CoreSetSpecial:
		r.assign(r.symbol(p.node.Data), words[0])
	case api.CoreIf:
		if words[0] != heap.Nil {
			r.begins(p.kid(1))
		} else {
			r.begins(p.kid(2))
		}
	case api.CoreLet:
		env := p.env
		for i, n := range p.node.Vars {
			env = r.with(env, n, words[i])
		}
		r.body(p, env)
	case api.CoreBind:
		var symbols []heap.Word
		for _, s := range p.node.Syms {
			symbols = append(symbols, r.symbol(s))
		}
		r.bind(p, symbols, words)
	case api.CoreProgv:
		r.progv(p, words[0], words[1])
	case api.CoreCall:
		r.calls(words[0], words[1:])
	case api.CoreCallGlobal:
		if f, ok := r.function(r.symbol(p.node.Data)); ok {
			r.calls(f, words)
		}
	case api.CoreCatch:
		r.push(&catching{tag: words[0]})
		r.begins(p.kid(1))
	case api.CoreThrow:
		r.push(&throwing{tag: words[0]})
		r.begins(p.kid(1))
	case api.CoreValuesCall:
		r.spread(&spreading{place: p, function: words[0], kid: 1})
	}
}

// assign changes the value of a symbol.
func (r *run) assign(symbol, x heap.Word) {
	if r.w.SetValue(symbol, x) != api.OK {
		r.fault(lib.Fault{Type: "PROGRAM-ERROR", Data: []heap.Word{symbol}})
		return
	}
	r.gives(x)
}

// bind binds symbols to values for the time of the body.
func (r *run) bind(p place, symbols, values []heap.Word) {
	var old []heap.Word
	for _, s := range symbols {
		x, _ := r.w.Value(s)
		if r.w.SetValue(s, x) != api.OK { // changes nothing, but tells constants
			r.fault(lib.Fault{Type: "PROGRAM-ERROR", Data: []heap.Word{s}})
			return
		}
		old = append(old, x)
	}
	r.push(&bound{symbols: symbols, old: old})
	for i, s := range symbols {
		r.w.SetValue(s, values[i])
	}
	r.body(p, p.env)
}

func (r *run) progv(p place, symbols, values heap.Word) {
	var lists [2][]heap.Word
	for i, x := range []heap.Word{symbols, values} {
		l, ok := r.elements(x)
		if !ok {
			r.wrong(x, "LIST")
			return
		}
		lists[i] = l
	}
	for i, s := range lists[0] {
		if r.h.Kind(s) != heap.KindSymbol {
			r.wrong(s, "SYMBOL")
			return
		}
		if i >= len(lists[1]) {
			lists[1] = append(lists[1], heap.Unbound)
		}
	}
	r.bind(p, lists[0], lists[1])
}

// wrong goes on with the fault of an object that has not a type.
func (r *run) wrong(x heap.Word, kind string) {
	r.fault(lib.Fault{Type: "TYPE-ERROR", Data: []heap.Word{x, r.lisp(kind)}})
}

// elements returns the elements of a list, and whether it is a proper one.
func (r *run) elements(x heap.Word) ([]heap.Word, bool) {
	var l []heap.Word
	for r.h.Kind(x) == heap.KindCons && len(l) < r.h.Limit() { // longer ones are circular
		y, _ := r.h.Get(x, 0)
		l = append(l, y)
		x, _ = r.h.Get(x, 1)
	}
	return l, x == heap.Nil
}

// spread begins the next form of a CoreValuesCall, or makes the call.
func (r *run) spread(f *spreading) {
	if f.kid == len(f.node.Kids) {
		r.calls(f.function, f.words)
		return
	}
	p := f.place.kid(f.kid)
	f.kid++
	r.push(f)
	r.begins(p)
}

// keep begins the next form of a CoreValuesFirst, or gives the values of the first one.
func (r *run) keep(f *keeping) {
	if f.kid == len(f.node.Kids) {
		r.gives(f.values...)
		return
	}
	p := f.place.kid(f.kid)
	r.push(f)
	r.begins(p)
}
