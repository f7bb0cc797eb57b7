package ways

// noNode stands where a node could stand, and none does.
const noNode = -1

// walk is a manner of going through a graph: where ways begin, and where they can go on to from each node.
// What is over a node, and what is under it, differ in nothing else.
type walk struct {
	starts []int
	steps  [][]int
}

// onward begins with node 0 and goes along the edges.
func (g *Graph) onward() walk {
	w := walk{steps: make([][]int, g.nodes)}
	if g.nodes > 0 {
		w.starts = []int{0}
	}
	for edge := range g.edges {
		w.steps[edge[0]] = append(w.steps[edge[0]], edge[1])
	}
	return w
}

// backward begins with the ends and goes against the edges.
func (g *Graph) backward() walk {
	w := walk{starts: listed(g.ends), steps: make([][]int, g.nodes)}
	for edge := range g.edges {
		w.steps[edge[1]] = append(w.steps[edge[1]], edge[0])
	}
	return w
}

// reached tells to which nodes ways lead that do not go over one node (noNode: whatever they go over).
// The order of the steps is the map's, and is not to be seen in a set.
func (w walk) reached(without int) []bool {
	seen := make([]bool, len(w.steps))
	var waiting []int
	visit := func(nodes []int) {
		for _, a := range nodes {
			if a != without && !seen[a] {
				seen[a] = true
				waiting = append(waiting, a)
			}
		}
	}
	visit(w.starts)
	for len(waiting) > 0 {
		a := waiting[0]
		waiting = waiting[1:]
		visit(w.steps[a])
	}
	return seen
}

// held tells to which nodes ways lead, but none that does not go over a.
func (w walk) held(a int) []bool {
	all := w.reached(noNode)
	for b, passed := range w.reached(a) {
		if passed {
			all[b] = false
		}
	}
	return all
}

// allHeld tells of each node, in its row, what held tells of it.
func (w walk) allHeld() [][]bool {
	held := make([][]bool, len(w.steps))
	for a := range held {
		held[a] = w.held(a)
	}
	return held
}

// nearest tells the node, other than b, that all ways to b go over, such that all ways to it go over all others of these; -1, if there is none.
func (w walk) nearest(b int) int {
	held := w.allHeld()
candidates:
	for a := range held {
		if a == b || !held[a][b] {
			continue
		}
		for c := range held {
			if c != b && held[c][b] && !held[c][a] {
				continue candidates
			}
		}
		return a
	}
	return noNode
}
