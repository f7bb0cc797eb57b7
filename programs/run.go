package programs

import (
	"strconv"
	"strings"

	"ridge/api"
	"ridge/lines"
)

// Run tells how a run with these arguments goes, until it ends or needs more than the fuel.
func (p *Program) Run(args []int64, fuel int) api.Result {
	values := p.start(args)
	var trace []string
	at := 0
blocks:
	for {
		for _, line := range p.blocks[at].lines {
			if fuel == 0 {
				break blocks
			}
			fuel--
			y, z := taken(line, values)
			switch line.Word {
			case lines.Out:
				trace = append(trace, strconv.FormatInt(y, 10))
			case lines.Goto, lines.If:
				at = next(line, y)
				continue blocks
			case lines.End:
				return api.Result{Ended: true, Value: y, Trace: strings.Join(trace, " ")}
			default:
				values[line.Sets] = line.Word.Reckon(y, z)
			}
		}
	}
	return api.Result{Trace: strings.Join(trace, " ")}
}

// start tells what the variables are at first: those that it does not have are 0.
func (p *Program) start(args []int64) map[string]int64 {
	values := map[string]int64{}
	for i, name := range p.args {
		if i < len(args) {
			values[name] = args[i]
		}
	}
	return values
}

// taken tells the two numbers that a line takes, 0 for each that it does not. No line takes a number of its own and names too.
func taken(line lines.Line, values map[string]int64) (int64, int64) {
	given := [2]int64{line.Number}
	for i, name := range line.Takes {
		given[i] = values[name]
	}
	return given[0], given[1]
}

// next tells to which block a line leads that takes x, or nothing.
func next(line lines.Line, x int64) int {
	if line.Word == lines.If && x == 0 {
		return line.Leads[1]
	}
	return line.Leads[0]
}
