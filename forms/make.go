package forms

import (
	"slices"

	"ridge/lines"
	"ridge/programs"
	"ridge/ways"
)

// Make tells the form of a program.
func Make(program *programs.Program) programs.Program {
	form := moved(program)
	closeAway(&form)
	graph := form.Graph()
	addPhis(&form, &graph)
	numberAll(&form, &graph)
	return form
}

// moved tells a program with a block that leads to block 0 laid ahead of it. It shares no list with the program.
func moved(program *programs.Program) programs.Program {
	form := programs.Program{Args: slices.Clone(program.Args)}
	form.Blocks = append(form.Blocks, leading(1))
	for _, block := range program.Blocks {
		var list []lines.Line
		for _, line := range block.Lines {
			line.Takes = slices.Clone(line.Takes)
			line.Leads = slices.Clone(line.Leads)
			for i := range line.Leads {
				line.Leads[i]++
			}
			list = append(list, line)
		}
		form.Blocks = append(form.Blocks, programs.Block{Lines: list})
	}
	return form
}

// leading tells a block that does nothing but lead to a block.
func leading(to int) programs.Block {
	return programs.Block{Lines: []lines.Line{goTo(to)}}
}

// goTo tells a line that leads to a block, whatever the variables are.
func goTo(to int) lines.Line {
	return lines.Line{Word: lines.Goto, Leads: []int{to}}
}

// closeAway makes each block that is not reached lead to itself alone.
func closeAway(form *programs.Program) {
	graph := form.Graph()
	for b := range form.Blocks {
		if !graph.Reached(b) {
			form.Blocks[b] = leading(b)
		}
	}
}

// addPhis lays a phi of each variable where the ways from what sets it meet; as yet without numbers of versions.
func addPhis(form *programs.Program, graph *ways.Graph) {
	for _, name := range namesSet(form) {
		for _, b := range graph.Meets(append(setting(form, name), 0)) {
			phi := lines.Phi{Sets: lines.Version{Name: name}}
			for _, a := range graph.Ahead(b) {
				phi.Choices = append(phi.Choices, lines.Choice{From: a, Takes: phi.Sets})
			}
			form.Blocks[b].Phis = append(form.Blocks[b].Phis, phi)
		}
	}
}

// namesSet tells which variables lines set, in the order of texts.
func namesSet(form *programs.Program) []string {
	var names []string
	for _, block := range form.Blocks {
		for _, line := range block.Lines {
			if line.Sets.Name != "" {
				names = append(names, line.Sets.Name)
			}
		}
	}
	slices.Sort(names)
	return slices.Compact(names)
}

// setting tells in which blocks lines set a variable.
func setting(form *programs.Program, name string) []int {
	var list []int
blocks:
	for b, block := range form.Blocks {
		for _, line := range block.Lines {
			if line.Sets.Name == name {
				list = append(list, b)
				continue blocks
			}
		}
	}
	return list
}
