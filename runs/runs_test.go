package runs_test

import (
	"testing"

	"commonform/api"
	"commonform/lib"
	"commonform/runs"
)

// Runs that are parts of one another have the constants of the outermost one, unless they have their own; with it all is forgotten.
func TestRuns(t *testing.T) {
	w, e := lib.New(api.MaxWords, 1000)
	if e != api.OK {
		t.Fatal(e)
	}
	before := len(w.Heap().Roots())
	a, b := &api.Core{}, &api.Core{}
	g := runs.Begin(w, false)
	if g.Part() || g.Crossed || g.Frames != 0 || len(g.Constants()) != 0 {
		t.Error("an outermost run")
	}
	g.Constants()[a] = w.Heap().Root(8)
	g.Frames = 5
	inner := runs.Begin(w, false)
	if inner != g || !g.Part() || g.Frames != 5 || len(g.Constants()) != 1 {
		t.Error("a part")
	}
	own := runs.Begin(w, true)
	if own != g || !g.Part() || len(g.Constants()) != 0 {
		t.Error("a part with constants of its own")
	}
	g.Constants()[b] = w.Heap().Root(16)
	g.Crossed = true
	g.End(w)
	if !g.Part() || !g.Crossed || len(g.Constants()) != 1 || len(w.Heap().Roots()) != before+1 {
		t.Error("behind its end")
	}
	g.End(w)
	g.End(w)
	if len(w.Heap().Roots()) != before {
		t.Error("roots behind all runs")
	}
	if again := runs.Begin(w, true); again == g || again.Crossed || again.Part() || again.Frames != 0 {
		t.Error("another outermost run")
	}
}
