package lines

import (
	"strconv"
	"strings"

	"ridge/api"
)

// Phi is a line that says which version counts where ways meet.
type Phi struct {
	Sets    Version
	Choices []Choice
}

// Choice is the version that counts if the run comes from a block.
type Choice struct {
	From  int
	Takes Version
}

// ReadPhi tells what a phi says, and whether a line is one.
// Of a list that is longer than there can be blocks only the beginning is kept, long enough to be too long.
func ReadPhi(text string) (Phi, bool) {
	behind, ok := strings.CutPrefix(text, "phi ")
	if !ok {
		return Phi{}, false
	}
	word, behind, more := strings.Cut(behind, " ")
	sets, ok := Versions.read(word)
	if !ok {
		return Phi{}, false
	}
	phi := Phi{Sets: sets}
	for more {
		word, behind, more = strings.Cut(behind, " ")
		choice, ok := readChoice(word)
		if !ok {
			return Phi{}, false
		}
		if len(phi.Choices) <= api.MaxNodes {
			phi.Choices = append(phi.Choices, choice)
		}
	}
	return phi, true
}

func readChoice(word string) (Choice, bool) {
	from, version, _ := strings.Cut(word, ":")
	block, ok := readBlock(from)
	if !ok {
		return Choice{}, false
	}
	takes, ok := Versions.read(version)
	return Choice{From: block, Takes: takes}, ok
}

// Taken tells which version counts if the run comes from a block for which the phi has one.
func (p Phi) Taken(from int) Version {
	for _, c := range p.Choices {
		if c.From == from {
			return c.Takes
		}
	}
	return Version{}
}

// Text tells how a phi is written.
func (p Phi) Text() string {
	words := []string{"phi", p.Sets.Text()}
	for _, c := range p.Choices {
		words = append(words, strconv.Itoa(c.From)+":"+c.Takes.Text())
	}
	return strings.Join(words, " ")
}
