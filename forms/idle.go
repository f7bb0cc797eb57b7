package forms

import (
	"slices"

	"ridge/lines"
	"ridge/programs"
)

// instead is, of versions whose phis are idle, the version that can be taken in their place.
type instead map[lines.Version]lines.Version

// dropIdlePhis takes out the phis that take only one version, their own aside, and lets all lines take that one in their place.
// In a form all of whose blocks are reached it can be taken there: what sets it is over the block of the phi, and is not in it,
// since the first time a run comes to that block, it comes from one for which the phi takes another version than its own.
func dropIdlePhis(form *programs.Program) {
	in := instead{}
	for in.grow(form) {
	}
	for b := range form.Blocks {
		block := &form.Blocks[b]
		block.Phis = slices.DeleteFunc(block.Phis, func(phi lines.Phi) bool { return in.has(phi.Sets) })
		for _, phi := range block.Phis {
			for i, c := range phi.Choices {
				phi.Choices[i].Takes = in.of(c.Takes)
			}
		}
		for _, line := range block.Lines {
			for i, v := range line.Takes {
				line.Takes[i] = in.of(v)
			}
		}
	}
}

// grow looks once through all phis for more that are idle, by those that are known to be, and tells whether it found any.
func (in instead) grow(form *programs.Program) bool {
	before := len(in)
	for _, block := range form.Blocks {
	phis:
		for _, phi := range block.Phis {
			if in.has(phi.Sets) {
				continue
			}
			only := phi.Sets // as long as there is no other one
			for _, c := range phi.Choices {
				v := in.of(c.Takes)
				if v == phi.Sets || v == only {
					continue
				}
				if only != phi.Sets {
					continue phis
				}
				only = v
			}
			if only != phi.Sets {
				in[phi.Sets] = only
			}
		}
	}
	return len(in) > before
}

func (in instead) has(v lines.Version) bool {
	_, ok := in[v]
	return ok
}

// of tells which version is taken in a version's place, it may be the same one. What it found by several steps it notes, so that the steps stay few.
func (in instead) of(v lines.Version) lines.Version {
	next, ok := in[v]
	if !ok {
		return v
	}
	in[v] = in.of(next)
	return in[v]
}
