package forms

import (
	"slices"

	"ridge/lines"
	"ridge/programs"
)

// dropNeedless takes out the lines and phis that set versions on which nothing hangs that a run tells.
// A run is then told with less fuel, never with more.
func dropNeedless(form *programs.Program) {
	need := needed(form)
	for b := range form.Blocks {
		block := &form.Blocks[b]
		block.Phis = slices.DeleteFunc(block.Phis, func(phi lines.Phi) bool { return need[phi.Sets] == 0 })
		block.Lines = slices.DeleteFunc(block.Lines, func(line lines.Line) bool {
			return line.Sets.Name != "" && need[line.Sets] == 0
		})
	}
}

// needed tells how often versions are needed, those on which hangs what a run tells: lines that set none (out, if, end)
// need what they take, and each version that is needed, what is taken to set it.
func needed(form *programs.Program) map[lines.Version]int {
	takes := map[lines.Version][]lines.Version{} // what is taken to set a version
	var waiting []lines.Version
	for _, block := range form.Blocks {
		for _, phi := range block.Phis {
			for _, c := range phi.Choices {
				takes[phi.Sets] = append(takes[phi.Sets], c.Takes)
			}
		}
		for _, line := range block.Lines {
			if line.Sets.Name != "" {
				takes[line.Sets] = line.Takes
				continue
			}
			waiting = append(waiting, line.Takes...)
		}
	}
	need := map[lines.Version]int{}
	for ; len(waiting) > 0; waiting = waiting[1:] {
		v := waiting[0]
		need[v]++
		if need[v] == 1 {
			waiting = append(waiting, takes[v]...)
		}
	}
	return need
}
