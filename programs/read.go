// Package programs reads programs and forms, as far as they are written right, and runs them.
package programs

import (
	"slices"
	"strings"

	"ridge/api"
	"ridge/lines"
	"ridge/ways"
)

// Program is a program, or a form: a program whose lines have versions, and that may have phis.
type Program struct {
	Args   []lines.Version
	Blocks []Block
}

// Block is what stands behind the line `block`, up to the terminator, and the number in the text of the first of these lines.
type Block struct {
	First int
	Phis  []lines.Phi
	Lines []lines.Line
}

// PhiAt tells the number in the text of a phi, by its place among the phis.
func (b *Block) PhiAt(i int) int { return b.First + i }

// LineAt tells the number in the text of a line that is no phi, by its place among these.
func (b *Block) LineAt(i int) int { return b.First + len(b.Phis) + i }

// kind is what programs and forms differ in as texts.
type kind struct {
	lines  int // how many there may be
	blocks int // likewise
	tongue lines.Tongue
}

// Read tells which program a text is; if it is none, why, and the number of the line.
func Read(text string) (Program, api.Errno, int) {
	p, errno, at := kind{lines: api.MaxLines, blocks: api.MaxBlocks, tongue: lines.Names}.read(text)
	if errno != api.OK {
		return Program{}, errno, at
	}
	if at, ok := p.crowded(); ok {
		return Program{}, api.ErrMany, at
	}
	return p, api.OK, 0
}

// ReadForm tells which form a text is, well made or not; if it is none, why, and the number of the line.
func ReadForm(text string) (Program, api.Errno, int) {
	return kind{lines: api.MaxForm, blocks: api.MaxNodes, tongue: lines.Versions}.read(text)
}

func (k kind) read(text string) (Program, api.Errno, int) {
	if strings.Count(text, "\n") >= k.lines {
		return Program{}, api.ErrLong, 0
	}
	p, at, ok := k.readAll(strings.Split(text, "\n"))
	if !ok {
		return Program{}, api.ErrForm, at
	}
	if at, ok := p.lost(); ok {
		return Program{}, api.ErrName, at
	}
	return p, api.OK, 0
}

// readAll tells which program lines are; if they are none, by which of them this is seen.
func (k kind) readAll(texts []string) (Program, int, bool) {
	var p Program
	open := false
	for at, text := range texts {
		ok := false
		switch {
		case at == 0:
			p.Args, ok = lines.ReadArgs(text, k.tongue)
		case open:
			open, ok = k.goOn(&p.Blocks[len(p.Blocks)-1], text)
		default:
			ok = text == "block" && len(p.Blocks) < k.blocks
			p.Blocks = append(p.Blocks, Block{First: at + 1})
			open = true
		}
		if !ok {
			return Program{}, at, false
		}
	}
	return p, len(texts), len(p.Blocks) > 0 && !open
}

// goOn takes a line into a block, and tells whether the block is still open behind it, and whether the line can stand there.
func (k kind) goOn(b *Block, text string) (bool, bool) {
	if k.tongue == lines.Versions && len(b.Lines) == 0 {
		if phi, ok := lines.ReadPhi(text); ok {
			b.Phis = append(b.Phis, phi)
			return true, true
		}
	}
	line, ok := lines.Read(text, k.tongue)
	if !ok {
		return false, false
	}
	b.Lines = append(b.Lines, line)
	return !line.Word.Ends(), true
}

// lost tells the first line that leads to a block that there is not, and whether there is one.
func (p *Program) lost() (int, bool) {
	for _, b := range p.Blocks {
		for i, line := range b.Lines {
			for _, next := range line.Leads {
				if next >= len(p.Blocks) {
					return b.LineAt(i), true
				}
			}
		}
	}
	return 0, false
}

// crowded tells the first line that has a name too many, and whether there is one. The names in args are too few for that.
func (p *Program) crowded() (int, bool) {
	names := slices.Clone(p.Args)
	for _, b := range p.Blocks {
		for i, line := range b.Lines {
			for _, v := range append([]lines.Version{line.Sets}, line.Takes...) {
				if v.Name != "" && !slices.Contains(names, v) {
					names = append(names, v)
				}
			}
			if len(names) > api.MaxVars {
				return b.LineAt(i), true
			}
		}
	}
	return 0, false
}

// Graph tells how the terminators lead from block to block.
func (p *Program) Graph() ways.Graph {
	g := ways.New(len(p.Blocks))
	for a, b := range p.Blocks {
		for _, line := range b.Lines {
			for _, next := range line.Leads {
				g.Add(a, next)
			}
		}
	}
	return g
}
