// Package programs reads programs and runs them.
package programs

import (
	"slices"
	"strings"

	"ridge/api"
	"ridge/lines"
)

// Program is a program that can be run.
type Program struct {
	args   []string
	blocks []block
}

// block is the statements and the terminator of a block, and the number of the first of these lines in the text.
type block struct {
	first int
	lines []lines.Line
}

// Read tells which program a text is; if it is none, why, and the number of the line.
func Read(text string) (Program, api.Errno, int) {
	if strings.Count(text, "\n") >= api.MaxLines {
		return Program{}, api.ErrLong, 0
	}
	p, at, ok := readAll(strings.Split(text, "\n"))
	if !ok {
		return Program{}, api.ErrForm, at
	}
	if at, ok := p.lost(); ok {
		return Program{}, api.ErrName, at
	}
	if at, ok := p.crowded(); ok {
		return Program{}, api.ErrMany, at
	}
	return p, api.OK, 0
}

// readAll tells which program lines are; if they are none, by which of them this is seen.
func readAll(texts []string) (Program, int, bool) {
	var p Program
	open := false
	for at, text := range texts {
		ok := false
		switch {
		case at == 0:
			p.args, ok = lines.ReadArgs(text)
		case open:
			open, ok = p.goOn(text)
		default:
			ok = p.begin(text, at)
			open = true
		}
		if !ok {
			return Program{}, at, false
		}
	}
	return p, len(texts), len(p.blocks) > 0 && !open
}

// begin takes the line that begins a block, and tells whether it does and may.
func (p *Program) begin(text string, at int) bool {
	if text != "block" || len(p.blocks) == api.MaxBlocks {
		return false
	}
	p.blocks = append(p.blocks, block{first: at + 1})
	return true
}

// goOn takes a line into the last block, and tells whether the block is still open behind it, and whether the line is one.
func (p *Program) goOn(text string) (bool, bool) {
	line, ok := lines.Read(text)
	if !ok {
		return false, false
	}
	last := &p.blocks[len(p.blocks)-1]
	last.lines = append(last.lines, line)
	return !line.Word.Ends(), true
}

// lost tells the first line that leads to a block that there is not, and whether there is one.
func (p *Program) lost() (int, bool) {
	for _, b := range p.blocks {
		for i, line := range b.lines {
			for _, next := range line.Leads {
				if next >= len(p.blocks) {
					return b.first + i, true
				}
			}
		}
	}
	return 0, false
}

// crowded tells the first line that has a name too many, and whether there is one. The names in args are too few for that.
func (p *Program) crowded() (int, bool) {
	names := slices.Clone(p.args)
	for _, b := range p.blocks {
		for i, line := range b.lines {
			for _, name := range append([]string{line.Sets}, line.Takes...) {
				if name != "" && !slices.Contains(names, name) {
					names = append(names, name)
				}
			}
			if len(names) > api.MaxVars {
				return b.first + i, true
			}
		}
	}
	return 0, false
}
