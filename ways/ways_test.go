package ways

import (
	"slices"
	"testing"
)

// Edges that are there several times go one by one, and lead on until the last one is gone.
func TestEdgesAreCounted(t *testing.T) {
	g := New(2)
	g.Add(0, 1)
	g.Add(0, 1)
	for left := 2; left > 0; left-- {
		if g.Count(0, 1) != left || !g.Reached(1) {
			t.Errorf("%d edges of %d, reached: %v", g.Count(0, 1), left, g.Reached(1))
		}
		g.Cut(0, 1)
	}
	if g.Count(0, 1) != 0 || g.Reached(1) || len(g.edges) != 0 {
		t.Errorf("an edge is left: %v", g.edges)
	}
}

func TestBothDirections(t *testing.T) {
	g := New(4)
	for _, e := range [][2]int{{0, 1}, {0, 2}, {1, 3}, {2, 3}} {
		g.Add(e[0], e[1])
	}
	g.Mark(3, true)
	if g.Last(3) != 0 || g.Next(0) != 3 || g.Last(0) != -1 || g.Next(3) != -1 {
		t.Errorf("last %d, %d, next %d, %d", g.Last(3), g.Last(0), g.Next(0), g.Next(3))
	}
	if !g.Over(0, 3) || g.Over(1, 3) || !g.Under(3, 0) || g.Under(1, 0) || !g.Ending(2) {
		t.Error("what is over 3, or under 0")
	}
	if l := g.Edge(1); !slices.Equal(l, []int{3}) {
		t.Errorf("the edge of 1: %v", l)
	}
	g.Mark(3, false)
	if g.Ending(2) {
		t.Error("there is no end")
	}
}

// AllOver says at once what Over says one by one, and Ahead what Count says.
func TestAllAtOnce(t *testing.T) {
	g := New(5)
	for _, e := range [][2]int{{0, 1}, {0, 1}, {1, 2}, {2, 1}, {2, 2}, {4, 2}, {4, 1}} {
		g.Add(e[0], e[1])
	}
	all := g.AllOver()
	for a := range 5 {
		for b := range 5 {
			if all[a][b] != g.Over(a, b) {
				t.Errorf("%d over %d: %v, %v", a, b, all[a][b], g.Over(a, b))
			}
		}
	}
	for b, want := range [][]int{nil, {0, 2, 4}, {1, 2, 4}, nil, nil} {
		if l := g.Ahead(b); !slices.Equal(l, want) {
			t.Errorf("ahead of %d: %v, want %v", b, l, want)
		}
	}
}

// A graph without nodes is nobody's wish, but it can be asked where no ways meet.
func TestNothing(t *testing.T) {
	var g Graph
	if g.Nodes() != 0 || len(g.Meets(nil)) != 0 {
		t.Error("nothing is something")
	}
}
