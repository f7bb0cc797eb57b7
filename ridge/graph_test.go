package ridge_test

import (
	"math"
	"slices"
	"testing"

	"ridge/api"
	"ridge/ridge"
)

func newGraph(t *testing.T, n int) *ridge.Graph {
	t.Helper()
	g, e := ridge.New(n)
	if g == nil || e != api.OK {
		t.Fatalf("New(%d) = %v, %d", n, g, e)
	}
	return g
}

func build(t *testing.T, p plain) *ridge.Graph {
	t.Helper()
	g := newGraph(t, p.nodes)
	for _, x := range p.edges {
		if e := g.Add(x[0], x[1]); e != api.OK {
			t.Fatalf("Add(%d, %d) = %d", x[0], x[1], e)
		}
	}
	for _, a := range p.ends {
		if e := g.End(a, true); e != api.OK {
			t.Fatalf("End(%d, true) = %d", a, e)
		}
	}
	return g
}

// told is all that a graph tells of itself.
type told struct {
	over, under       [][]bool
	last, next        []int
	lastErr, nextErr  []api.Errno
	edge, meets       [][]int
	edgeErr, meetsErr []api.Errno
}

func ask(n int, g *ridge.Graph) told {
	var x told
	for a := range n {
		var over, under []bool
		for b := range n {
			o, e := g.Over(a, b)
			u, f := g.Under(a, b)
			over = append(over, o && e == api.OK)
			under = append(under, u && f == api.OK)
		}
		x.over, x.under = append(x.over, over), append(x.under, under)
		last, e := g.Last(a)
		x.last, x.lastErr = append(x.last, last), append(x.lastErr, e)
		next, e := g.Next(a)
		x.next, x.nextErr = append(x.next, next), append(x.nextErr, e)
		edge, e := g.Edge(a)
		x.edge, x.edgeErr = append(x.edge, edge), append(x.edgeErr, e)
		meets, e := g.Meets([]int{a})
		x.meets, x.meetsErr = append(x.meets, meets), append(x.meetsErr, e)
	}
	return x
}

func expect(p plain) told {
	var x told
	for a := range p.nodes {
		var over, under []bool
		for b := range p.nodes {
			over = append(over, p.over(a, b))
			under = append(under, p.under(a, b))
		}
		x.over, x.under = append(x.over, over), append(x.under, under)
		last, edge, away := 0, []int(nil), api.ErrAway
		if p.reached(a) {
			last, edge, away = p.nearest(p.over, a), p.edge(a), api.OK
		}
		x.last, x.lastErr = append(x.last, last), append(x.lastErr, away)
		x.edge, x.edgeErr = append(x.edge, edge), append(x.edgeErr, away)
		next, away := 0, api.ErrAway
		if len(p.waysToEnds(a)) > 0 {
			next, away = p.nearest(p.under, a), api.OK
		}
		x.next, x.nextErr = append(x.next, next), append(x.nextErr, away)
		x.meets, x.meetsErr = append(x.meets, p.meets([]int{a})), append(x.meetsErr, api.OK)
	}
	return x
}

func sameLists[T comparable](a, b [][]T) bool {
	return slices.EqualFunc(a, b, func(x, y []T) bool { return slices.Equal(x, y) })
}

func (x told) same(y told) bool {
	return sameLists(x.over, y.over) && sameLists(x.under, y.under) &&
		slices.Equal(x.last, y.last) && slices.Equal(x.lastErr, y.lastErr) &&
		slices.Equal(x.next, y.next) && slices.Equal(x.nextErr, y.nextErr) &&
		sameLists(x.edge, y.edge) && slices.Equal(x.edgeErr, y.edgeErr) &&
		sameLists(x.meets, y.meets) && slices.Equal(x.meetsErr, y.meetsErr)
}

func compare(t *testing.T, p plain, g *ridge.Graph) {
	t.Helper()
	if got, want := ask(p.nodes, g), expect(p); !got.same(want) {
		t.Fatalf("of %+v is told\n%+v, want\n%+v", p, got, want)
	}
	from := []int{p.nodes - 1, 0, p.nodes / 2, 0}
	if got, e := g.Meets(from); e != api.OK || !slices.Equal(got, p.meets(from)) {
		t.Fatalf("of %+v Meets(%v) = %v, %d, want %v", p, from, got, e, p.meets(from))
	}
}

// pairs lists all edges that n nodes can have.
func pairs(n int) [][2]int {
	var list [][2]int
	for a := range n {
		for b := range n {
			list = append(list, [2]int{a, b})
		}
	}
	return list
}

func chosen[T any](list []T, bits int) []T {
	var some []T
	for i, x := range list {
		if bits>>i&1 == 1 {
			some = append(some, x)
		}
	}
	return some
}

// dice are numbers without a plain rule, the same in each run.
type dice uint64

func (d *dice) roll(sides int) int {
	*d = *d*6364136223846793005 + 1442695040888963407
	return int((*d >> 33) % dice(sides))
}

// P4, P5: all graphs of 1, 2 and 3 nodes, with all ends.
func TestAllSmallGraphs(t *testing.T) {
	for n := 1; n <= 3; n++ {
		edges, nodes := pairs(n), []int{0, 1, 2}[:n]
		for bits := range 1 << len(edges) {
			for ends := range 1 << n {
				p := plain{n, chosen(edges, bits), chosen(nodes, ends)}
				compare(t, p, build(t, p))
			}
		}
	}
}

// P4, P5: some graphs of 4 to 6 nodes, thin and thick ones.
func TestSomeGraphs(t *testing.T) {
	d := dice(1)
	for i := range 600 {
		p := plain{nodes: 4 + i%3}
		thin := 2 + i%5
		for _, x := range pairs(p.nodes) {
			if d.roll(thin) == 0 {
				p.edges = append(p.edges, x)
			}
		}
		for a := range p.nodes {
			if d.roll(4) == 0 {
				p.ends = append(p.ends, a)
			}
		}
		compare(t, p, build(t, p))
	}
}

// P2 to P5: graphs side by side, that change at each step, hang on nothing but what was done with each.
func TestGraphsThatChange(t *testing.T) {
	d := dice(2)
	shapes := []plain{{nodes: 1}, {nodes: 4}, {nodes: 5}, {nodes: 5}}
	var graphs []*ridge.Graph
	for _, p := range shapes {
		graphs = append(graphs, newGraph(t, p.nodes))
	}
	for range 800 {
		i := d.roll(len(shapes))
		change(t, &d, &shapes[i], graphs[i])
		j := d.roll(len(shapes))
		compare(t, shapes[j], graphs[j])
	}
}

func change(t *testing.T, d *dice, p *plain, g *ridge.Graph) {
	t.Helper()
	a, b := d.roll(p.nodes), d.roll(p.nodes)
	want, got := api.OK, api.OK
	switch d.roll(4) {
	case 0:
		got = g.End(a, true)
		if !contains(p.ends, a) {
			p.ends = append(p.ends, a)
		}
	case 1:
		got = g.End(a, false)
		p.ends = slices.DeleteFunc(p.ends, func(x int) bool { return x == a })
	case 2:
		got = g.Cut(a, b)
		if !p.leads(a, b) {
			want = api.ErrNone
		}
		p.edges = slices.DeleteFunc(p.edges, func(x [2]int) bool { return x == [2]int{a, b} })
	default:
		got = g.Add(a, b)
		if p.leads(a, b) {
			want = api.ErrTwice
		} else {
			p.edges = append(p.edges, [2]int{a, b})
		}
	}
	if got != want {
		t.Fatalf("with the nodes %d, %d of %+v: %d, want %d", a, b, *p, got, want)
	}
}

// P3: how many nodes there may be.
func TestNew(t *testing.T) {
	for n := 1; n <= api.MaxNodes; n++ {
		g := newGraph(t, n)
		if e := g.Add(n-1, n-1); e != api.OK {
			t.Errorf("of %d nodes, Add of the last: %d", n, e)
		}
		if e := g.Add(n-1, n); e != api.ErrNode {
			t.Errorf("of %d nodes, Add of one more: %d", n, e)
		}
	}
	for _, n := range []int{0, -1, api.MaxNodes + 1, math.MaxInt, math.MinInt} {
		if g, e := ridge.New(n); g != nil || e != api.ErrSize {
			t.Errorf("New(%d) = %v, %d", n, g, e)
		}
	}
}

// P3: edges come once and go once, each direction for itself.
func TestAddAndCut(t *testing.T) {
	g := newGraph(t, 3)
	steps := []struct {
		do   func(int, int) api.Errno
		a, b int
		want api.Errno
	}{
		{g.Cut, 0, 1, api.ErrNone},
		{g.Add, 0, 1, api.OK},
		{g.Add, 0, 1, api.ErrTwice},
		{g.Cut, 1, 0, api.ErrNone},
		{g.Add, 1, 0, api.OK},
		{g.Add, 2, 2, api.OK},
		{g.Add, 2, 2, api.ErrTwice},
		{g.Cut, 0, 1, api.OK},
		{g.Cut, 0, 1, api.ErrNone},
		{g.Cut, 1, 0, api.OK},
		{g.Add, 0, 1, api.OK},
		{g.Cut, 2, 2, api.OK},
		{g.Cut, 2, 2, api.ErrNone},
	}
	for i, s := range steps {
		if e := s.do(s.a, s.b); e != s.want {
			t.Errorf("step %d, with %d and %d: %d, want %d", i, s.a, s.b, e, s.want)
		}
	}
	compare(t, plain{nodes: 3, edges: [][2]int{{0, 1}}}, g)
}

// P3: End said twice is said once, and can be taken back.
func TestEnd(t *testing.T) {
	g := newGraph(t, 2)
	g.Add(0, 1)
	for _, s := range []struct {
		yes  bool
		want api.Errno
	}{{false, api.ErrAway}, {true, api.OK}, {true, api.OK}, {false, api.ErrAway}, {false, api.ErrAway}} {
		if e := g.End(1, s.yes); e != api.OK {
			t.Errorf("End(1, %v) = %d", s.yes, e)
		}
		if _, e := g.Next(0); e != s.want {
			t.Errorf("behind End(1, %v), Next(0): %d, want %d", s.yes, e, s.want)
		}
	}
}

// P1, P3 to P5: nodes that are none are refused ahead of all else, with nothing beside, and nothing changes.
func TestNoSuchNode(t *testing.T) {
	p := plain{3, [][2]int{{0, 1}, {1, 1}}, []int{1}}
	g := build(t, p)
	wrong := []int{-1, 3, api.MaxNodes, 64, math.MaxInt, math.MinInt, math.MaxInt32 + 1, math.MinInt32 - 1}
	for _, a := range wrong {
		for _, pair := range [][2]int{{a, 0}, {0, a}, {a, a}, {2, a}} {
			over, e := g.Over(pair[0], pair[1])
			under, f := g.Under(pair[0], pair[1])
			if over || under || e != api.ErrNode || f != api.ErrNode {
				t.Errorf("Over, Under of %v: %v, %d, %v, %d", pair, over, e, under, f)
			}
			if e, f := g.Add(pair[0], pair[1]), g.Cut(pair[0], pair[1]); e != api.ErrNode || f != api.ErrNode {
				t.Errorf("Add, Cut of %v: %d, %d", pair, e, f)
			}
		}
		if e, f := g.End(a, true), g.End(a, false); e != api.ErrNode || f != api.ErrNode {
			t.Errorf("End of %d: %d, %d", a, e, f)
		}
		last, e := g.Last(a)
		next, f := g.Next(a)
		if last != 0 || next != 0 || e != api.ErrNode || f != api.ErrNode {
			t.Errorf("Last, Next of %d: %d, %d, %d, %d", a, last, e, next, f)
		}
		if l, e := g.Edge(a); len(l) > 0 || e != api.ErrNode {
			t.Errorf("Edge(%d) = %v, %d", a, l, e)
		}
		for _, from := range [][]int{{a}, {1, a}, {a, 1}, {2, 1, a, 1}} {
			if l, e := g.Meets(from); len(l) > 0 || e != api.ErrNode {
				t.Errorf("Meets(%v) = %v, %d", from, l, e)
			}
		}
	}
	compare(t, p, g)
}

// P1: what is refused for other reasons changes nothing either.
func TestRefusalsChangeNothing(t *testing.T) {
	p := plain{4, [][2]int{{0, 1}, {1, 2}, {2, 1}, {3, 3}}, []int{2}}
	g := build(t, p)
	before := ask(4, g)
	if g.Add(0, 1) != api.ErrTwice || g.Cut(1, 0) != api.ErrNone || g.Add(3, 3) != api.ErrTwice {
		t.Error("edges twice, or none, are taken")
	}
	if last, e := g.Last(3); last != 0 || e != api.ErrAway {
		t.Errorf("Last(3) = %d, %d", last, e)
	}
	if l, e := g.Edge(3); len(l) > 0 || e != api.ErrAway {
		t.Errorf("Edge(3) = %v, %d", l, e)
	}
	if next, e := g.Next(3); next != 0 || e != api.ErrAway {
		t.Errorf("Next(3) = %d, %d", next, e)
	}
	if !ask(4, g).same(before) {
		t.Error("a refusal, or a question, changed the graph")
	}
}
