// Package runs is no layer: it knows which runs are going on in a world, and which ones are parts of others, whatever their roads.
package runs

import (
	"commonform/api"
	"commonform/lib"
)

// extra is the name under which a world keeps what is going on.
const extra = "running"

// Going is what is going on in a world.
type Going struct {
	Frames int // how many frames the runs around the innermost one have
	wholes []whole
}

// whole is a run that is no part of another one, with its parts.
type whole struct {
	runs      int
	crossed   bool
	constants map[*api.Core]int // the roots that hold constants, by their nodes
}

// Begin begins a run in a world: as a part of the innermost one that is going on, or for itself.
func Begin(w *lib.World, part bool) *Going {
	g, ok := w.Extra(extra).(*Going)
	if !ok {
		g = &Going{}
		w.SetExtra(extra, g)
	}
	if !part || len(g.wholes) == 0 {
		g.wholes = append(g.wholes, whole{constants: map[*api.Core]int{}})
	}
	g.last().runs++
	return g
}

// last returns the whole to which the innermost run belongs.
func (g *Going) last() *whole { return &g.wholes[len(g.wholes)-1] }

// Part reports whether the innermost run is a part of another one.
func (g *Going) Part() bool { return g.last().runs > 1 }

// Cross says that an exit leads out of the innermost run, which ends all of which it is a part.
func (g *Going) Cross() { g.last().crossed = true }

// Crossed reports whether an exit led out of a part.
func (g *Going) Crossed() bool { return g.last().crossed }

// Constants returns the roots that hold the constants of the innermost run and of those of which it is a part, by their nodes.
func (g *Going) Constants() map[*api.Core]int { return g.last().constants }

// End ends the innermost run; with a whole its constants are let go.
func (g *Going) End(w *lib.World) {
	l := g.last()
	l.runs--
	if l.runs > 0 {
		return
	}
	for _, root := range l.constants {
		w.Heap().Drop(root)
	}
	g.wholes = g.wholes[:len(g.wholes)-1]
	if len(g.wholes) == 0 {
		w.SetExtra(extra, nil)
	}
}
