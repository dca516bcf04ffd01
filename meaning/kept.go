package meaning

import (
	"commonform/api"
	"commonform/heap"
	"commonform/lib"
)

// extra is the name under which a world keeps the trees of its closures.
const extra = "meaning"

// kept is what outlives a run.
type kept struct {
	lambdas []lambda
	indices map[*api.Core]int
	ids     int // how many blocks and tagbodies were begun that closures may leave
}

// lambda is a CoreLambda of a program.
type lambda struct {
	node    *api.Core
	program *program
}

// keptIn returns what a world keeps.
func keptIn(w *lib.World) *kept {
	k, ok := w.Extra(extra).(*kept)
	if !ok {
		k = &kept{indices: map[*api.Core]int{}}
		w.SetExtra(extra, k)
	}
	return k
}

// index returns the index of a lambda, which is kept from now on.
func (k *kept) index(l lambda) int {
	i, known := k.indices[l.node]
	if !known {
		i = len(k.lambdas)
		k.lambdas = append(k.lambdas, l)
		k.indices[l.node] = i
	}
	return i
}

// lambda returns that of a closure, if a word is one.
func (k *kept) lambda(w *lib.World, x heap.Word) (lambda, bool) {
	h := w.Heap()
	field, e := h.Get(x, 0)
	i, ok := field.Fixnum()
	if h.Kind(x) != heap.KindClosure || h.Len(x) != 2 || e != api.OK || !ok || i < 0 || i >= int64(len(k.lambdas)) {
		return lambda{}, false
	}
	return k.lambdas[i], true
}

// program is what is known of the blocks and tags of a tree.
type program struct {
	returned map[int]bool // blocks to which a CoreReturn leads
	captured map[int]bool // the keys of blocks and tagbodies that a lambda inside of them leaves
	tags     map[int]tag
}

// tag is where a tag stands.
type tag struct {
	key     int // of its tagbody
	segment int
	level   int // how many lambdas are around its tagbody
}

// Blocks and tagbodies that are captured are bound in environments like variables, by numbers that no variable has.
func blockKey(n int) int    { return 10000 + n }
func tagsKey(first int) int { return 20000 + first }

// analyzed looks at a right tree.
func analyzed(c *api.Core) *program {
	p := &program{returned: map[int]bool{}, captured: map[int]bool{}, tags: map[int]tag{}}
	levels := map[int]int{} // of blocks
	var walk func(c *api.Core, level int)
	walk = func(c *api.Core, level int) {
		switch c.Op {
		case api.CoreLambda:
			level++
		case api.CoreBlock:
			levels[c.N] = level
		case api.CoreReturn:
			p.returned[c.N] = true
			if level > levels[c.N] {
				p.captured[blockKey(c.N)] = true
			}
		case api.CoreTagbody:
			for i, n := range c.Vars {
				p.tags[n] = tag{key: tagsKey(c.Vars[0]), segment: i + 1, level: level}
			}
		case api.CoreGo:
			if t := p.tags[c.N]; level > t.level {
				p.captured[t.key] = true
			}
		}
		for i := range c.Kids {
			walk(&c.Kids[i], level)
		}
	}
	walk(c, 0)
	return p
}
