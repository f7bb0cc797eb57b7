package lines

import (
	"strconv"
	"strings"

	"ridge/api"
)

// Version is a variable as one of the lines sets it. In a program a name stands for all of them: the number is 0 there.
type Version struct {
	Name   string
	Number int
}

// Text tells how a version is written.
func (v Version) Text() string { return v.Name + "." + strconv.Itoa(v.Number) }

// Tongue is what stands in a line for variables.
type Tongue int

const (
	Names    Tongue = iota // as in programs
	Versions               // as in forms
)

// read tells which version a word is, and whether it is one.
func (t Tongue) read(word string) (Version, bool) {
	if t == Names {
		return Version{Name: word}, isName(word)
	}
	name, digits, _ := strings.Cut(word, ".")
	number, ok := readNumber(digits)
	return Version{Name: name, Number: int(number)}, ok && isName(name) && number >= 0 && number <= api.MaxVersion
}
