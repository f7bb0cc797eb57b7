package ridge_test

// What the document says of graphs, word by word and without haste: every way is listed, every list is tried.

// plain is a graph as the document has it.
type plain struct {
	nodes int
	edges [][2]int
	ends  []int
}

func (p plain) leads(a, b int) bool {
	for _, e := range p.edges {
		if e == [2]int{a, b} {
			return true
		}
	}
	return false
}

// ways lists the ways from a to b that go over no node twice: if one goes not over x, so does one of these.
func (p plain) ways(a, b int) [][]int {
	return p.longer([]int{a}, b)
}

func (p plain) longer(way []int, b int) [][]int {
	last := way[len(way)-1]
	if last == b {
		return [][]int{append([]int{}, way...)}
	}
	var all [][]int
	for x := range p.nodes {
		if p.leads(last, x) && !contains(way, x) {
			all = append(all, p.longer(append(append([]int{}, way...), x), b)...)
		}
	}
	return all
}

func contains(list []int, a int) bool {
	for _, x := range list {
		if x == a {
			return true
		}
	}
	return false
}

func onAll(ways [][]int, a int) bool {
	for _, w := range ways {
		if !contains(w, a) {
			return false
		}
	}
	return len(ways) > 0
}

func (p plain) reached(b int) bool { return len(p.ways(0, b)) > 0 }

func (p plain) over(a, b int) bool { return onAll(p.ways(0, b), a) }

func (p plain) waysToEnds(b int) [][]int {
	var all [][]int
	for _, e := range p.ends {
		all = append(all, p.ways(b, e)...)
	}
	return all
}

func (p plain) under(a, b int) bool { return onAll(p.waysToEnds(b), a) }

// nearest: of all nodes other than b that hold b, the one that all others of these hold; -1: none.
func (p plain) nearest(holds func(a, b int) bool, b int) int {
	for a := range p.nodes {
		fits := a != b && holds(a, b)
		for c := range p.nodes {
			if c != b && holds(c, b) && !holds(c, a) {
				fits = false
			}
		}
		if fits {
			return a
		}
	}
	return -1
}

func (p plain) edge(a int) []int {
	var list []int
	for y := range p.nodes {
		in := false
		for x := range p.nodes {
			in = in || p.reached(x) && p.leads(x, y) && p.over(a, x) && (!p.over(a, y) || a == y)
		}
		if in {
			list = append(list, y)
		}
	}
	return list
}

// meets tries all lists of nodes and takes the shortest of those that have what they must.
func (p plain) meets(from []int) []int {
	edges := make([][]int, p.nodes)
	for a := range p.nodes {
		edges[a] = p.edge(a)
	}
	var least []int
	found := false
	for bits := range 1 << p.nodes {
		var list []int
		for a := range p.nodes {
			if bits>>a&1 == 1 {
				list = append(list, a)
			}
		}
		fits := true
		for a := range p.nodes {
			if contains(list, a) || contains(from, a) && p.reached(a) {
				for _, y := range edges[a] {
					fits = fits && contains(list, y)
				}
			}
		}
		if fits && (!found || len(list) < len(least)) {
			found, least = true, list
		}
	}
	return least
}
