package runs_test

import (
	"testing"

	"commonform/api"
	"commonform/lib"
	"commonform/runs"
)

// Parts have the constants of the run to which they belong, and end with it; other runs are for themselves.
func TestRuns(t *testing.T) {
	w, e := lib.New(api.MaxWords, 1000)
	if e != api.OK {
		t.Fatal(e)
	}
	before := len(w.Heap().Roots())
	a, b := &api.Core{}, &api.Core{}
	g := runs.Begin(w, true)
	if g.Part() || g.Crossed() || g.Frames != 0 || len(g.Constants()) != 0 {
		t.Error("an outermost run")
	}
	g.Constants()[a] = w.Heap().Root(8)
	g.Frames = 5
	if runs.Begin(w, true) != g || !g.Part() || g.Frames != 5 || len(g.Constants()) != 1 {
		t.Error("a part")
	}
	if runs.Begin(w, false) != g || g.Part() || len(g.Constants()) != 0 {
		t.Error("a run for itself")
	}
	g.Constants()[b] = w.Heap().Root(16)
	runs.Begin(w, true)
	g.Cross()
	g.End(w)
	if g.Part() || !g.Crossed() || len(g.Constants()) != 1 || len(w.Heap().Roots()) != before+2 {
		t.Error("behind the end of its part")
	}
	g.End(w)
	if !g.Part() || g.Crossed() || len(g.Constants()) != 1 || len(w.Heap().Roots()) != before+1 {
		t.Error("behind its end")
	}
	g.End(w)
	g.End(w)
	if len(w.Heap().Roots()) != before {
		t.Error("roots behind all runs")
	}
	if again := runs.Begin(w, false); again == g || again.Crossed() || again.Part() || again.Frames != 0 {
		t.Error("another outermost run")
	}
}
