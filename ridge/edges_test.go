package ridge_test

import (
	"slices"
	"testing"

	"ridge/api"
	"ridge/ridge"
)

func wantList(t *testing.T, what string, got []int, e api.Errno, want ...int) {
	t.Helper()
	if e != api.OK || !slices.Equal(got, want) {
		t.Errorf("%s: %v, %d, want %v", what, got, e, want)
	}
}

// P4, P5: example 1 of the document.
func TestExampleOne(t *testing.T) {
	g := build(t, plain{6, [][2]int{{0, 1}, {0, 2}, {1, 3}, {2, 3}, {3, 4}, {4, 3}}, []int{4}})
	for a, want := range []bool{true, false, false, true, true, false} {
		if o, e := g.Over(a, 4); o != want || e != api.OK {
			t.Errorf("Over(%d, 4) = %v, %d", a, o, e)
		}
		if u, e := g.Under(a, 0); u != want || e != api.OK {
			t.Errorf("Under(%d, 0) = %v, %d", a, u, e)
		}
		if o, e := g.Over(a, 5); o || e != api.OK {
			t.Errorf("Over(%d, 5) = %v, %d", a, o, e)
		}
	}
	for b, want := range map[int]int{4: 3, 3: 0, 0: -1} {
		if l, e := g.Last(b); l != want || e != api.OK {
			t.Errorf("Last(%d) = %d, %d", b, l, e)
		}
	}
	for b, want := range map[int]int{0: 3, 4: -1} {
		if l, e := g.Next(b); l != want || e != api.OK {
			t.Errorf("Next(%d) = %d, %d", b, l, e)
		}
	}
	for a, want := range [][]int{{}, {3}, {3}, {3}, {3}} {
		l, e := g.Edge(a)
		wantList(t, "the edge", l, e, want...)
	}
	l, e := g.Meets([]int{1})
	wantList(t, "the ways from 1 meet", l, e, 3)
	if l, e := g.Last(5); l != 0 || e != api.ErrAway {
		t.Errorf("Last(5) = %d, %d", l, e)
	}
	if l, e := g.Next(5); l != 0 || e != api.ErrAway {
		t.Errorf("Next(5) = %d, %d", l, e)
	}
}

// P4: an edge of a node to itself is its own edge, reached or not.
func TestOwnEdge(t *testing.T) {
	g := build(t, plain{3, [][2]int{{0, 0}, {0, 1}, {1, 1}, {2, 2}, {2, 1}}, nil})
	for a, want := range [][]int{{0}, {1}} {
		l, e := g.Edge(a)
		wantList(t, "the edge", l, e, want...)
	}
	l, e := g.Meets([]int{0, 1, 2})
	wantList(t, "the ways meet", l, e, 0, 1)
	l, e = g.Meets([]int{2})
	wantList(t, "the ways from what is not reached meet", l, e)
}

// P5: ends that are not reached from node 0 count; a way may go on beyond an end.
func TestEndsAnywhere(t *testing.T) {
	g := build(t, plain{4, [][2]int{{0, 1}, {1, 2}, {3, 2}}, []int{1, 2}})
	for b, want := range []int{1, -1, -1, 2} {
		if l, e := g.Next(b); l != want || e != api.OK {
			t.Errorf("Next(%d) = %d, %d, want %d", b, l, e, want)
		}
	}
	if u, e := g.Under(2, 0); u || e != api.OK {
		t.Errorf("Under(2, 0) = %v, %d: the way ends at 1", u, e)
	}
}

// line is 40 nodes, each leading to the next, the last one an end.
func line(t *testing.T) *ridge.Graph {
	t.Helper()
	p := plain{nodes: api.MaxNodes, ends: []int{api.MaxNodes - 1}}
	for a := range api.MaxNodes - 1 {
		p.edges = append(p.edges, [2]int{a, a + 1})
	}
	return build(t, p)
}

// P4, P5: a line of 40 nodes, and then with edges back from each to all ahead.
func TestForty(t *testing.T) {
	g := line(t)
	checkLine(t, g)
	for a := range api.MaxNodes {
		for b := range a {
			if e := g.Add(a, b); e != api.OK {
				t.Fatalf("Add(%d, %d) = %d", a, b, e)
			}
		}
	}
	checkLine(t, g)
	for a := range api.MaxNodes {
		var want []int
		for b := range a + 1 {
			if b < a || a < api.MaxNodes-1 {
				want = append(want, b)
			}
		}
		l, e := g.Edge(a)
		wantList(t, "the edge with all ways back", l, e, want...)
	}
}

func checkLine(t *testing.T, g *ridge.Graph) {
	t.Helper()
	for a := range api.MaxNodes {
		if l, e := g.Last(a); l != a-1 || e != api.OK {
			t.Errorf("Last(%d) = %d, %d", a, l, e)
		}
		next := a + 1
		if next == api.MaxNodes {
			next = -1
		}
		if l, e := g.Next(a); l != next || e != api.OK {
			t.Errorf("Next(%d) = %d, %d", a, l, e)
		}
		for b := range api.MaxNodes {
			if o, e := g.Over(a, b); o != (a <= b) || e != api.OK {
				t.Errorf("Over(%d, %d) = %v, %d", a, b, o, e)
			}
			if u, e := g.Under(a, b); u != (a >= b) || e != api.OK {
				t.Errorf("Under(%d, %d) = %v, %d", a, b, u, e)
			}
		}
	}
}

// P4, P5: 40 nodes with all edges that there can be: only node 0 is over others, and each is under itself alone.
func TestFortyWithAllEdges(t *testing.T) {
	p := plain{nodes: api.MaxNodes, edges: pairs(api.MaxNodes), ends: []int{1, 2}}
	g := build(t, p)
	all := make([]int, api.MaxNodes)
	for a := range all {
		all[a] = a
	}
	for a := range all {
		want := 0
		if a == 0 {
			want = -1
		}
		if l, e := g.Last(a); l != want || e != api.OK {
			t.Errorf("Last(%d) = %d, %d", a, l, e)
		}
		if l, e := g.Next(a); l != -1 || e != api.OK {
			t.Errorf("Next(%d) = %d, %d", a, l, e)
		}
	}
	l, e := g.Edge(0)
	wantList(t, "the edge of 0", l, e, 0)
	l, e = g.Edge(39)
	wantList(t, "the edge of 39", l, e, all...)
	l, e = g.Meets([]int{39})
	wantList(t, "the ways from 39 meet", l, e, all...)
}

// P4: a long list, with nodes twice and nodes that are not reached.
func TestMeetsOfLongLists(t *testing.T) {
	g := build(t, plain{5, [][2]int{{0, 1}, {0, 2}, {1, 3}, {2, 3}, {4, 3}, {4, 1}}, nil})
	l, e := g.Meets(slices.Repeat([]int{4, 1, 4, 2, 1}, 20000))
	wantList(t, "a long list", l, e, 3)
	l, e = g.Meets(slices.Repeat([]int{4, 0, 3}, 20000))
	wantList(t, "a long list of what meets nowhere", l, e)
	l, e = g.Meets(nil)
	wantList(t, "no list", l, e)
	l, e = g.Meets([]int{})
	wantList(t, "an empty list", l, e)
}

// P2: what is handed in, and what stands behind it, is read alone.
func TestListsHandedIn(t *testing.T) {
	g := build(t, plain{4, [][2]int{{0, 1}, {0, 2}, {1, 3}, {2, 3}, {3, 3}}, nil})
	room := []int{2, 1, 2, 77, 78, 79, 80, 81}
	l, e := g.Meets(room[:3])
	wantList(t, "the ways from 2 and 1 meet", l, e, 3)
	if !slices.Equal(room, []int{2, 1, 2, 77, 78, 79, 80, 81}) {
		t.Errorf("what was handed in is now %v", room)
	}
	wrong := []int{3, 2, 9, 77, 78}
	if _, e := g.Meets(wrong[:3]); e != api.ErrNode || !slices.Equal(wrong, []int{3, 2, 9, 77, 78}) {
		t.Errorf("what was refused, by %d, is now %v", e, wrong)
	}
	l[0] = 99
	if !slices.Equal(room, []int{2, 1, 2, 77, 78, 79, 80, 81}) {
		t.Errorf("what came out is what was handed in: %v", room)
	}
}

// P2: what comes out can be written over, with its spare room, and nothing else is.
func TestListsHandedOut(t *testing.T) {
	g := build(t, plain{5, [][2]int{{0, 1}, {0, 2}, {1, 2}, {2, 1}, {1, 3}, {2, 3}, {3, 3}}, nil})
	lists := func() [][]int {
		var all [][]int
		for a := range 4 {
			l, _ := g.Edge(a)
			m, _ := g.Meets([]int{a})
			all = append(all, l, m)
		}
		return all
	}
	first, want, kept := lists(), lists(), lists()
	for i := range first {
		want[i] = slices.Clone(want[i])
	}
	for _, l := range first {
		l = l[:cap(l)]
		for i := range l {
			l[i] = -7
		}
	}
	if !sameLists(kept, want) || !sameLists(lists(), want) {
		t.Errorf("what was written into one list is in another: %v, %v, want %v", kept, lists(), want)
	}
}

// P2: questions can be asked of one graph again, and of others between, without another answer.
func TestAskedAgain(t *testing.T) {
	p := plain{6, [][2]int{{0, 1}, {1, 2}, {2, 3}, {3, 1}, {1, 4}, {4, 5}, {3, 5}}, []int{5}}
	g, h := build(t, p), line(t)
	before := ask(6, g)
	for range 5 {
		checkLine(t, h)
		if !ask(6, g).same(before) {
			t.Fatal("the same question has another answer")
		}
	}
}
