package meaning

import (
	"commonform/api"
	"commonform/heap"
	"commonform/lib"
)

// frame is what is still to be done with values.
type frame interface {
	// undo takes back what was done for the time of the frame, when an exit leaves it.
	undo(r *run)
}

// lasting is a part of frames for whose time nothing was done.
type lasting struct{}

func (lasting) undo(*run) {}

// gathering has the first values of the first kids of a node.
type gathering struct {
	lasting
	place
	words []heap.Word
}

// sequence goes on with a kid of a CoreProgn.
type sequence struct {
	lasting
	place
	kid int
}

// block is a CoreBlock of a program.
type block struct {
	lasting
	program *program
	number  int
	id      int // what closures know it by; none, if there are none that leave it
}

const none = -1

// returning gives its values to a block.
type returning struct {
	lasting
	place
}

// tagbody goes on with a segment.
type tagbody struct {
	lasting
	place
	key, id int
	segment int
}

// catching is a CoreCatch.
type catching struct {
	lasting
	tag heap.Word
}

// throwing gives its values to a CoreCatch.
type throwing struct {
	lasting
	tag heap.Word
}

// protecting is a CoreProtect whose first kid is run, cleaning one whose second kid is: then it goes on with values, or with an exit.
type protecting struct {
	lasting
	place
}

type cleaning struct {
	lasting
	values []heap.Word
	exit   *exit
}

// bound has what symbols had that are bound.
type bound struct{ symbols, old []heap.Word }

func (f *bound) undo(r *run) {
	for i := len(f.symbols) - 1; i >= 0; i-- {
		r.w.SetValue(f.symbols[i], f.old[i])
	}
}

// spreading has a function, and all values of the first forms of a CoreValuesCall.
type spreading struct {
	lasting
	place
	function heap.Word
	words    []heap.Word
	kid      int
}

// keeping has the values of the first form of a CoreValuesFirst.
type keeping struct {
	lasting
	place
	values []heap.Word
	kid    int
}

// faulting ends the run with a fault.
type faulting struct {
	lasting
	fault lib.Fault
}

// resume goes on with a frame that was cut off, and the values that it gets.
func (r *run) resume(f frame, values []heap.Word) {
	switch f := f.(type) {
	case *gathering:
		f.words = append(f.words, first(values))
		r.gather(f)
	case *sequence:
		r.sequence(f)
	case *block, *catching:
		r.gives(values...)
	case *bound:
		f.undo(r)
		r.gives(values...)
	case *returning:
		r.returns(f.place, values)
	case *tagbody:
		r.segment(f)
	case *throwing:
		r.throws(f.tag, values)
	case *protecting:
		r.push(&cleaning{values: values})
		r.begins(f.kid(1))
	case *cleaning:
		if f.exit != nil {
			r.leaves(*f.exit)
		} else {
			r.gives(f.values...)
		}
	case *spreading:
		f.words = append(f.words, values...)
		r.spread(f)
	case *keeping:
		if f.kid == 0 {
			f.values = values
		}
		f.kid++
		r.keep(f)
	case *entering:
		f.take(r, first(values), false)
		r.enter(f)
	case *faulting:
		r.leaves(exit{to: outside, end: lib.End{Kind: lib.EndFault, Fault: f.fault}})
	}
}

// leave hands an exit to the innermost frame.
func (r *run) leave(x exit) {
	at := len(r.frames) - 1
	if at < 0 {
		panic(x.end)
	}
	f := r.cut(at)
	if at == x.to {
		if body, ok := f.(*tagbody); ok {
			body.segment = x.segment
			r.segment(body)
			return
		}
		r.gives(x.values...)
		return
	}
	f.undo(r)
	if p, ok := f.(*protecting); ok {
		r.push(&cleaning{exit: &x})
		r.begins(p.kid(1))
	}
}

// innermost returns the index of the innermost frame of which a function says that it is the one; outside, if there is none.
func (r *run) innermost(is func(frame) bool) int {
	for i := len(r.frames) - 1; i >= 0; i-- {
		if is(r.frames[i]) {
			return i
		}
	}
	return outside
}

// returns ends a block with values.
func (r *run) returns(p place, values []heap.Word) {
	id := r.idOf(p, blockKey(p.node.N))
	to := r.innermost(func(f frame) bool {
		b, ok := f.(*block)
		return ok && b.program == p.program && b.number == p.node.N && b.id == id
	})
	r.exits(exit{to: to, values: values}, id)
}

// goes goes on behind a tag.
func (r *run) goes(p place) {
	t := p.program.tags[p.node.N]
	id := r.idOf(p, t.key)
	to := r.innermost(func(f frame) bool {
		b, ok := f.(*tagbody)
		return ok && b.program == p.program && b.key == t.key && b.id == id
	})
	r.exits(exit{to: to, segment: t.segment}, id)
}

// idOf returns what the block or tagbody with a key is known by at a place.
func (r *run) idOf(p place, key int) int {
	if !p.program.captured[key] {
		return none
	}
	x, _ := r.h.Get(r.cell(p.env, key), 0)
	id, _ := x.Fixnum()
	return int(id)
}

// exits leaves by an exit; the block or tagbody to which it leads may have ended, or belong to a run around this one.
func (r *run) exits(x exit, id int) {
	switch {
	case x.to != outside:
		r.leaves(x)
	case r.part && id < r.firstID:
		r.crosses()
	default:
		r.fault(lib.Fault{Type: "CONTROL-ERROR"})
	}
}

// throws ends the innermost CoreCatch with a tag.
func (r *run) throws(tag heap.Word, values []heap.Word) {
	to := r.innermost(func(f frame) bool {
		c, ok := f.(*catching)
		return ok && r.eql(c.tag, tag)
	})
	switch {
	case to != outside:
		r.leaves(exit{to: to, values: values})
	case r.part:
		r.crosses()
	default:
		r.fault(lib.Fault{Type: "CONTROL-ERROR", Data: []heap.Word{tag}})
	}
}

// crosses ends this run and those of which it is a part.
func (r *run) crosses() {
	r.going.Cross()
	r.limited(ErrCross)
}

// eql reports whether two objects are the same, or equal numbers.
func (r *run) eql(a, b heap.Word) bool {
	kind := r.h.Kind(a)
	if a == b || kind != r.h.Kind(b) {
		return a == b
	}
	switch kind {
	case heap.KindInt, heap.KindRatio, heap.KindSingle, heap.KindDouble:
		x, e := r.h.Bytes(a)
		y, _ := r.h.Bytes(b)
		return e == api.OK && x == y
	case heap.KindComplex:
		for i := range 2 {
			x, _ := r.h.Get(a, i)
			y, _ := r.h.Get(b, i)
			if r.h.Kind(x) == heap.KindComplex || !r.eql(x, y) {
				return false
			}
		}
		return true
	}
	return false
}
