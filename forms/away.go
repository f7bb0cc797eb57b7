package forms

import (
	"slices"

	"ridge/lines"
	"ridge/programs"
	"ridge/ways"
)

// away stands where the number of a block could stand, if the block is to be taken away.
const away = -1

// dropAway takes away the blocks that are not reached, and from the phis what they have for blocks that are not ahead any more.
// The blocks that stay get new numbers in their old order, so that the blocks ahead still rise in phis, and block 0 stays the first.
func dropAway(form *programs.Program) {
	graph := form.Graph()
	numbers := newNumbers(&graph)
	var kept []programs.Block
	for b, block := range form.Blocks {
		if numbers[b] == away {
			continue
		}
		for i, phi := range block.Phis {
			choices := slices.DeleteFunc(phi.Choices, func(c lines.Choice) bool {
				return numbers[c.From] == away || graph.Count(c.From, b) == 0
			})
			for j, c := range choices {
				choices[j].From = numbers[c.From]
			}
			block.Phis[i].Choices = choices
		}
		for _, line := range block.Lines {
			for i, to := range line.Leads {
				line.Leads[i] = numbers[to]
			}
		}
		kept = append(kept, block)
	}
	form.Blocks = kept
}

// newNumbers tells which number each block gets.
func newNumbers(graph *ways.Graph) []int {
	var numbers []int
	kept := 0
	for b := range graph.Nodes() {
		if !graph.Reached(b) {
			numbers = append(numbers, away)
			continue
		}
		numbers = append(numbers, kept)
		kept++
	}
	return numbers
}
