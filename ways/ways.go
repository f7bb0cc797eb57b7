// Package ways tells what lies on all ways through a graph.
//
// It refuses nothing: whoever calls it has made sure that the nodes are there.
package ways

// Graph is nodes, numbered from 0 on, edges between them, and marks for ends.
type Graph struct {
	nodes int
	edges map[[2]int]int // how often there is an edge from the first to the second; an edge that there is not has no entry
	ends  []bool
}

// New makes a graph without edges and ends.
func New(nodes int) Graph {
	return Graph{nodes: nodes, edges: map[[2]int]int{}, ends: make([]bool, nodes)}
}

// Nodes tells how many nodes there are.
func (g *Graph) Nodes() int { return g.nodes }

// Count tells how often there is an edge from a to b.
func (g *Graph) Count(a int, b int) int { return g.edges[[2]int{a, b}] }

// Add adds an edge from a to b, once more if there is one.
func (g *Graph) Add(a int, b int) { g.edges[[2]int{a, b}]++ }

// Cut takes an edge from a to b away, once if there are several.
func (g *Graph) Cut(a int, b int) {
	edge := [2]int{a, b}
	if g.edges[edge] > 1 {
		g.edges[edge]--
		return
	}
	delete(g.edges, edge)
}

// Mark says whether a is an end.
func (g *Graph) Mark(a int, yes bool) { g.ends[a] = yes }

// Reached tells whether there is a way from node 0 to b.
func (g *Graph) Reached(b int) bool { return g.onward().reached(noNode)[b] }

// Over tells whether b is reached, and all ways from node 0 to it go over a.
func (g *Graph) Over(a int, b int) bool { return g.onward().held(a)[b] }

// AllOver tells of each node, in its row, which nodes it is over.
func (g *Graph) AllOver() [][]bool { return g.onward().allHeld() }

// Ahead tells, by rising numbers, the nodes from which an edge leads to b.
func (g *Graph) Ahead(b int) []int {
	var list []int
	for a := range g.nodes {
		if g.Count(a, b) > 0 {
			list = append(list, a)
		}
	}
	return list
}

// Last tells the last node over b, or -1 if only b itself is.
func (g *Graph) Last(b int) int { return g.onward().nearest(b) }

// Ending tells whether there is a way from b to an end.
func (g *Graph) Ending(b int) bool { return g.backward().reached(noNode)[b] }

// Under tells whether there is a way from b to an end, and all of them go over a.
func (g *Graph) Under(a int, b int) bool { return g.backward().held(a)[b] }

// Next tells the next node under b, or -1 if only b itself is.
func (g *Graph) Next(b int) int { return g.backward().nearest(b) }

// Edge tells, by rising numbers, where ways leave what a is over, or come back to a.
func (g *Graph) Edge(a int) []int { return g.edge(a, g.onward()) }

// edge is Edge with the walk made once by the caller, who may ask of many nodes.
func (g *Graph) edge(a int, w walk) []int {
	held := w.held(a)
	var list []int
targets:
	for y := range g.nodes {
		if held[y] && y != a {
			continue
		}
		for x := range g.nodes {
			if held[x] && g.Count(x, y) > 0 {
				list = append(list, y)
				continue targets
			}
		}
	}
	return list
}

// Meets tells, by rising numbers, where the ways from some nodes meet.
// Those that are not reached need no care: they are over nothing, so they have no edge.
func (g *Graph) Meets(from []int) []int {
	w := g.onward()
	asked := make([]bool, g.nodes)
	for _, a := range from {
		asked[a] = true
	}
	met := make([]bool, g.nodes)
	for waiting := listed(asked); len(waiting) > 0; waiting = waiting[1:] {
		for _, y := range g.edge(waiting[0], w) {
			if !met[y] {
				met[y] = true
				waiting = append(waiting, y)
			}
		}
	}
	return listed(met)
}

// listed tells, by rising numbers, the nodes that a set has.
func listed(set []bool) []int {
	var list []int
	for a, in := range set {
		if in {
			list = append(list, a)
		}
	}
	return list
}
