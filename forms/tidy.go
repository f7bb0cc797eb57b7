package forms

import (
	"slices"

	"ridge/lines"
	"ridge/programs"
)

// Tidy takes out of a form that is well made what its runs can do without. The form itself becomes the tidied one.
// One thing makes room for another: an `if` that is settled may leave blocks without a way to them, this may leave phis
// with only one version to take, and such a version may settle the next `if`.
func Tidy(form *programs.Program) {
	for again := true; again; {
		dropAway(form)
		dropIdlePhis(form)
		again = settle(form)
	}
	dropNeedless(form)
}

// settle makes a goto of each `if` whose way is known ahead of all runs, and tells whether there was one.
func settle(form *programs.Program) bool {
	numbers := numbersSet(form)
	settled := false
	for _, block := range form.Blocks {
		last := &block.Lines[len(block.Lines)-1]
		if last.Word != lines.If {
			continue
		}
		v := last.Takes[0]
		x, known := numbers[v]
		if v.Number == 0 {
			x, known = 0, !slices.Contains(form.Args, v)
		}
		if known || last.Leads[0] == last.Leads[1] {
			*last = goTo(last.Next(x))
			settled = true
		}
	}
	return settled
}

// numbersSet tells the number of each version that a `set` sets.
func numbersSet(form *programs.Program) map[lines.Version]int64 {
	numbers := map[lines.Version]int64{}
	for _, block := range form.Blocks {
		for _, line := range block.Lines {
			if line.Word == lines.Set {
				numbers[line.Sets] = line.Number
			}
		}
	}
	return numbers
}
