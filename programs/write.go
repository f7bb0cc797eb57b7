package programs

import (
	"strings"

	"ridge/lines"
)

// Text tells how a form is written.
func (p *Program) Text() string {
	list := []string{lines.ArgsText(p.Args)}
	for _, b := range p.Blocks {
		list = append(list, "block")
		for _, phi := range b.Phis {
			list = append(list, phi.Text())
		}
		for _, line := range b.Lines {
			list = append(list, line.Text())
		}
	}
	return strings.Join(list, "\n")
}
