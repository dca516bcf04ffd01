// Package runs is no layer: it knows which runs are going on in a world, one as a part of the other, whatever their roads.
package runs

import (
	"commonform/api"
	"commonform/lib"
)

// extra is the name under which a world keeps what is going on.
const extra = "running"

// Going is what is going on in a world.
type Going struct {
	Frames    int  // how many frames the runs around the innermost one have
	Crossed   bool // whether an exit led out of a run: then those around it end, too
	own       []bool
	constants []map[*api.Core]int
}

// Begin begins a run in a world, with constants of its own, or with those of the run around it.
func Begin(w *lib.World, own bool) *Going {
	g, ok := w.Extra(extra).(*Going)
	if !ok {
		g = &Going{}
		w.SetExtra(extra, g)
	}
	own = own || len(g.own) == 0
	g.own = append(g.own, own)
	if own {
		g.constants = append(g.constants, map[*api.Core]int{})
	}
	return g
}

// Part reports whether the innermost run is a part of another one.
func (g *Going) Part() bool { return len(g.own) > 1 }

// Constants returns the roots that hold the constants of the innermost run, by their nodes.
func (g *Going) Constants() map[*api.Core]int { return g.constants[len(g.constants)-1] }

// End ends the innermost run; with the outermost one all is forgotten.
func (g *Going) End(w *lib.World) {
	last := len(g.own) - 1
	if g.own[last] {
		for _, root := range g.Constants() {
			w.Heap().Drop(root)
		}
		g.constants = g.constants[:len(g.constants)-1]
	}
	g.own = g.own[:last]
	if last == 0 {
		w.SetExtra(extra, nil)
	}
}
