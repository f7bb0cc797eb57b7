package programs

import (
	"strconv"
	"strings"

	"ridge/api"
	"ridge/lines"
)

// values is what the variables are; those that it does not have are 0.
type values map[lines.Version]int64

// Run tells how a run with these arguments goes, until it ends or needs more than the fuel.
func (p *Program) Run(args []int64, fuel int) api.Result {
	v := p.start(args)
	var trace []string
	at := 0
blocks:
	for {
		for _, line := range p.Blocks[at].Lines {
			if fuel == 0 {
				break blocks
			}
			fuel--
			y, z := v.taken(line)
			switch line.Word {
			case lines.Out:
				trace = append(trace, strconv.FormatInt(y, 10))
			case lines.Goto, lines.If:
				from := at
				at = line.Next(y)
				v.meet(p.Blocks[at].Phis, from)
				continue blocks
			case lines.End:
				return api.Result{Ended: true, Value: y, Trace: strings.Join(trace, " ")}
			default:
				v[line.Sets] = line.Word.Reckon(y, z)
			}
		}
	}
	return api.Result{Trace: strings.Join(trace, " ")}
}

// start tells what the variables are at first.
func (p *Program) start(args []int64) values {
	v := values{}
	for i, arg := range p.Args {
		if i < len(args) {
			v[arg] = args[i]
		}
	}
	return v
}

// taken tells the two numbers that a line takes, 0 for each that it does not. No line takes a number of its own and variables too.
func (v values) taken(line lines.Line) (int64, int64) {
	given := [2]int64{line.Number}
	for i, version := range line.Takes {
		given[i] = v[version]
	}
	return given[0], given[1]
}

// meet does the phis of a block to which the run comes. None may see what another one sets, so all take ahead of all setting.
func (v values) meet(phis []lines.Phi, from int) {
	taken := make([]int64, len(phis))
	for i, phi := range phis {
		taken[i] = v[phi.Taken(from)]
	}
	for i, phi := range phis {
		v[phi.Sets] = taken[i]
	}
}
