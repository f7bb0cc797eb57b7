package lines

import (
	"slices"
	"strconv"
	"strings"

	"ridge/api"
)

// Line is a statement or a terminator.
type Line struct {
	Word   Word
	Sets   Version   // the version that it sets; none: without a name
	Takes  []Version // the versions that it takes, in their order
	Number int64     // the number that it takes; none: 0
	Leads  []int     // the blocks that may be next, in their order
}

// Next tells to which block a line leads that takes x, or nothing. It is asked only of lines that lead to one.
func (l Line) Next(x int64) int {
	if l.Word == If && x == 0 {
		return l.Leads[1]
	}
	return l.Leads[0]
}

// Read tells what a line within a block says, and whether it says anything.
func Read(text string, tongue Tongue) (Line, bool) {
	words := split(text, most)
	word, ok := find(words[0])
	if !ok {
		return Line{}, false
	}
	line := Line{Word: word}
	behind := words[1:]
	for _, p := range word.parts() {
		if p == nothing {
			break
		}
		if len(behind) == 0 || !line.add(p, behind[0], tongue) {
			return Line{}, false
		}
		behind = behind[1:]
	}
	return line, len(behind) == 0
}

// ReadArgs tells which versions an args line has, and whether it is one.
func ReadArgs(text string, tongue Tongue) ([]Version, bool) {
	words := split(text, api.MaxArgs)
	if words[0] != "args" || len(words) > 1+api.MaxArgs {
		return nil, false
	}
	var args []Version
	for _, word := range words[1:] {
		v, ok := tongue.read(word)
		if !ok || v.Number != 0 || slices.Contains(args, v) {
			return nil, false
		}
		args = append(args, v)
	}
	return args, true
}

// split parts a line into its words. If it has more than so many behind the first one, it gives one more than that, with all the rest in it:
// a line that is far too long is refused without being parted to its end.
func split(text string, behind int) []string {
	return strings.SplitN(text, " ", 1+behind+1)
}

// add takes one more word into the line, and tells whether it is what it should be.
func (l *Line) add(p part, word string, tongue Tongue) bool {
	ok := false
	switch p {
	case sets:
		l.Sets, ok = tongue.read(word)
	case takes:
		var v Version
		v, ok = tongue.read(word)
		l.Takes = append(l.Takes, v)
	case number:
		l.Number, ok = readNumber(word)
	case leads:
		var block int
		block, ok = readBlock(word)
		l.Leads = append(l.Leads, block)
	}
	return ok
}

func isName(word string) bool {
	if len(word) < 1 || len(word) > api.MaxName {
		return false
	}
	for i := range len(word) {
		if word[i] < 'a' || word[i] > 'z' {
			return false
		}
	}
	return true
}

// readBlock tells which block's number a word is. Whether there is this block, the line does not say.
func readBlock(word string) (int, bool) {
	n, ok := readNumber(word)
	return int(n), ok && n >= 0
}

// readNumber tells which number a word is. Each has only one way to be written, so what strconv would write otherwise (`+1`, `01`, `-0`) is none.
func readNumber(word string) (int64, bool) {
	n, err := strconv.ParseInt(word, 10, 64)
	if err != nil || strconv.FormatInt(n, 10) != word {
		return 0, false
	}
	return n, n >= -api.MaxNumber && n <= api.MaxNumber
}
