// Package forms tells whether forms are well made, makes forms of programs, and tidies forms.
package forms

import (
	"slices"

	"ridge/api"
	"ridge/lines"
	"ridge/programs"
	"ridge/ways"
)

// place is where a version is set: the block, and the number of the line in the text.
type place struct {
	block int
	at    int
}

// places is where each version is set that a line sets.
type places map[lines.Version]place

// Read tells which form a text is; if it is none, or not well made, why, and the number of the line.
func Read(text string) (programs.Program, api.Errno, int) {
	form, errno, at := programs.ReadForm(text)
	if errno == api.OK {
		errno, at = fault(&form)
	}
	if errno != api.OK {
		return programs.Program{}, errno, at
	}
	return form, api.OK, 0
}

// fault tells why a form is not well made, and the number of the line.
func fault(form *programs.Program) (api.Errno, int) {
	sets, at, ok := settings(form)
	if !ok {
		return api.ErrTwice, at
	}
	graph := form.Graph()
	if at, ok := strayPhi(form, &graph); ok {
		return api.ErrPhi, at
	}
	if at, ok := strayUse(form, &graph, sets); ok {
		return api.ErrUse, at
	}
	return api.OK, 0
}

// settings tells where each version is set; if one is set where it may not be, the number of that line.
func settings(form *programs.Program) (places, int, bool) {
	sets := places{}
	for b, block := range form.Blocks {
		for i, phi := range block.Phis {
			if at := block.PhiAt(i); !sets.add(phi.Sets, place{b, at}) {
				return nil, at, false
			}
		}
		for i, line := range block.Lines {
			if at := block.LineAt(i); line.Sets.Name != "" && !sets.add(line.Sets, place{b, at}) {
				return nil, at, false
			}
		}
	}
	return sets, 0, true
}

// add notes where a version is set, and tells whether it may be set there.
func (s places) add(v lines.Version, p place) bool {
	if _, twice := s[v]; twice || v.Number == 0 {
		return false
	}
	s[v] = p
	return true
}

// strayPhi tells the first phi that has other blocks than those ahead, or stands in block 0, and whether there is one.
func strayPhi(form *programs.Program, graph *ways.Graph) (int, bool) {
	for b, block := range form.Blocks {
		ahead := graph.Ahead(b)
		for i, phi := range block.Phis {
			fits := slices.EqualFunc(phi.Choices, ahead, func(c lines.Choice, a int) bool { return c.From == a })
			if b == 0 || !fits {
				return block.PhiAt(i), true
			}
		}
	}
	return 0, false
}

// strayUse tells the first line that takes a version that it may not take, and whether there is one.
func strayUse(form *programs.Program, graph *ways.Graph, sets places) (int, bool) {
	over := graph.AllOver()
	for b, block := range form.Blocks {
		if !over[0][b] { // not reached
			continue
		}
		for i, phi := range block.Phis {
			for _, c := range phi.Choices {
				if over[0][c.From] && !sets.countsBehind(c.Takes, c.From, over) {
					return block.PhiAt(i), true
				}
			}
		}
		for i, line := range block.Lines {
			for _, v := range line.Takes {
				if at := block.LineAt(i); !sets.countsAt(v, place{b, at}, over) {
					return at, true
				}
			}
		}
	}
	return 0, false
}

// countsBehind tells whether a version may be taken behind all lines of a block.
func (s places) countsBehind(v lines.Version, block int, over [][]bool) bool {
	set, ok := s[v]
	return v.Number == 0 || ok && over[set.block][block]
}

// countsAt tells whether a version may be taken in a line. Its block is over itself, but only the lines ahead of this one count there.
func (s places) countsAt(v lines.Version, p place, over [][]bool) bool {
	set, ok := s[v]
	if ok && set.block == p.block {
		return set.at < p.at
	}
	return v.Number == 0 || ok && over[set.block][p.block]
}
