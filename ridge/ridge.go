// Package ridge: nodes that lie on all ways, and programs in which each variable is set once: see DOC.md.
package ridge

import (
	"ridge/api"
	"ridge/forms"
	"ridge/programs"
	"ridge/ways"
)

// Graph is nodes, and edges from one to another.
type Graph struct {
	ways ways.Graph
}

// New makes a graph without edges (P3).
func New(n int) (*Graph, api.Errno) {
	if n < 1 || n > api.MaxNodes {
		return nil, api.ErrSize
	}
	return &Graph{ways: ways.New(n)}, api.OK
}

// has tells whether all of these are nodes.
func (g *Graph) has(nodes ...int) bool {
	for _, a := range nodes {
		if a < 0 || a >= g.ways.Nodes() {
			return false
		}
	}
	return true
}

// Add adds an edge (P3).
func (g *Graph) Add(a int, b int) api.Errno {
	if !g.has(a, b) {
		return api.ErrNode
	}
	if g.ways.Count(a, b) > 0 {
		return api.ErrTwice
	}
	g.ways.Add(a, b)
	return api.OK
}

// Cut takes an edge away (P3).
func (g *Graph) Cut(a int, b int) api.Errno {
	if !g.has(a, b) {
		return api.ErrNode
	}
	if g.ways.Count(a, b) == 0 {
		return api.ErrNone
	}
	g.ways.Cut(a, b)
	return api.OK
}

// End says whether ways may end at a node (P3).
func (g *Graph) End(a int, yes bool) api.Errno {
	if !g.has(a) {
		return api.ErrNode
	}
	g.ways.Mark(a, yes)
	return api.OK
}

// Over tells whether all ways from node 0 to b go over a (P4).
func (g *Graph) Over(a int, b int) (bool, api.Errno) {
	if !g.has(a, b) {
		return false, api.ErrNode
	}
	return g.ways.Over(a, b), api.OK
}

// Last tells the last node that all ways to b go over (P4).
func (g *Graph) Last(b int) (int, api.Errno) {
	if !g.has(b) {
		return 0, api.ErrNode
	}
	if !g.ways.Reached(b) {
		return 0, api.ErrAway
	}
	return g.ways.Last(b), api.OK
}

// Edge tells where what goes over a node ends (P4).
func (g *Graph) Edge(a int) ([]int, api.Errno) {
	if !g.has(a) {
		return nil, api.ErrNode
	}
	if !g.ways.Reached(a) {
		return nil, api.ErrAway
	}
	return g.ways.Edge(a), api.OK
}

// Meets tells where ways from some nodes meet (P4).
func (g *Graph) Meets(l []int) ([]int, api.Errno) {
	if !g.has(l...) {
		return nil, api.ErrNode
	}
	return g.ways.Meets(l), api.OK
}

// Under tells whether all ways from b to an end go over a (P5).
func (g *Graph) Under(a int, b int) (bool, api.Errno) {
	if !g.has(a, b) {
		return false, api.ErrNode
	}
	return g.ways.Under(a, b), api.OK
}

// Next tells the first node that all ways from b go over (P5).
func (g *Graph) Next(b int) (int, api.Errno) {
	if !g.has(b) {
		return 0, api.ErrNode
	}
	if !g.ways.Ending(b) {
		return 0, api.ErrAway
	}
	return g.ways.Next(b), api.OK
}

// Check tells whether a text is a program (P6).
func Check(program string) (api.Errno, int) {
	_, errno, at := programs.Read(program)
	return errno, at
}

// Run runs a program (P7).
func Run(program string, args []int64, fuel int) (api.Result, api.Errno, int) {
	p, errno, at := programs.Read(program)
	return run(p, errno, at, args, fuel)
}

// run runs what was read, unless there was an error, or the fuel is none.
func run(p programs.Program, errno api.Errno, at int, args []int64, fuel int) (api.Result, api.Errno, int) {
	if errno != api.OK {
		return api.Result{}, errno, at
	}
	if fuel < 0 || fuel > api.MaxFuel {
		return api.Result{}, api.ErrConf, 0
	}
	return p.Run(args, fuel), api.OK, 0
}

// Verify tells whether a text is a form (P8).
func Verify(form string) (api.Errno, int) {
	_, errno, at := forms.Read(form)
	return errno, at
}

// Exec runs a form (P9).
func Exec(form string, args []int64, fuel int) (api.Result, api.Errno, int) {
	f, errno, at := forms.Read(form)
	return run(f, errno, at, args, fuel)
}

// Convert makes a form of a program (P10).
func Convert(program string) (string, api.Errno, int) {
	p, errno, at := programs.Read(program)
	if errno != api.OK {
		return "", errno, at
	}
	form := forms.Make(&p)
	return form.Text(), api.OK, 0
}

// Tidy makes a shorter form of one (P11).
func Tidy(form string) (string, api.Errno, int) {
	f, errno, at := forms.Read(form)
	if errno != api.OK {
		return "", errno, at
	}
	forms.Tidy(&f)
	return f.Text(), api.OK, 0
}
