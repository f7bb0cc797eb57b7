package forms

import (
	"ridge/lines"
	"ridge/programs"
	"ridge/ways"
)

// slot is a variable's name and a block's number.
type slot struct {
	name  string
	block int
}

// numbering gives numbers to the versions of a form.
type numbering struct {
	form   *programs.Program
	last   []int          // of each block the last one over it; none: -1
	given  map[string]int // the number that a variable's versions have come to
	counts map[slot]int   // the number of the version that a block has set last, of the variables of which it has set one
}

// numberAll gives numbers to all versions. What a phi takes may be set behind it, so the phis are filled when all are given.
func numberAll(form *programs.Program, graph *ways.Graph) {
	n := numbering{form: form, given: map[string]int{}, counts: map[slot]int{}}
	for b := range form.Blocks {
		n.last = append(n.last, graph.Last(b))
	}
	n.number(0)
	for _, block := range form.Blocks {
		for _, phi := range block.Phis {
			for i, c := range phi.Choices {
				phi.Choices[i].Takes = n.counting(c.Takes.Name, c.From)
			}
		}
	}
}

// number gives numbers in a block, and then in all that follows from it. (A block that is not reached follows from none, and has no versions.)
func (n *numbering) number(b int) {
	block := &n.form.Blocks[b]
	for i, phi := range block.Phis {
		block.Phis[i].Sets = n.fresh(phi.Sets.Name, b)
	}
	for i, line := range block.Lines {
		for j, v := range line.Takes {
			line.Takes[j] = n.counting(v.Name, b)
		}
		if name := line.Sets.Name; name != "" {
			block.Lines[i].Sets = n.fresh(name, b)
		}
	}
	for next, last := range n.last {
		if last == b {
			n.number(next)
		}
	}
}

// fresh gives the next number of a variable to a version that a block sets.
func (n *numbering) fresh(name string, b int) lines.Version {
	n.given[name]++
	n.counts[slot{name, b}] = n.given[name]
	return lines.Version{Name: name, Number: n.given[name]}
}

// counting tells which version of a variable counts behind what a block has set so far.
func (n *numbering) counting(name string, b int) lines.Version {
	for ; b >= 0; b = n.last[b] {
		if number, ok := n.counts[slot{name, b}]; ok {
			return lines.Version{Name: name, Number: number}
		}
	}
	return lines.Version{Name: name}
}
