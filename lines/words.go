// Package lines tells what a line of a program or a form says, for itself: not whether it can stand where it stands.
package lines

// Word is the first word of a line in a block, by its row in the table of meanings.
type Word int

const (
	Set Word = iota
	Copy
	Add
	Sub
	Mul
	Less
	Out
	Goto
	If
	End
)

// part is what one of the words behind the first one is.
type part int

const (
	nothing part = iota
	sets         // the variable that the line sets
	takes        // a variable that it takes
	number       // a number that it takes
	leads        // the number of a block that may be next
)

// most is how many words the longest line has behind its first one, args and phis aside.
const most = 3

// meaning is what a word means: how its line is written, whether it ends a block, and what it makes of the numbers that it takes, if it sets a variable.
type meaning struct {
	text   string
	parts  [most]part
	ends   bool
	reckon func(y, z int64) int64
}

// meanings says what all words mean. Lines are written by it; they are read and run by the functions behind it, which say the same,
// so that no function is called out of a table at package level.
var meanings = [...]meaning{
	Set:  {text: "set", parts: [most]part{sets, number}, reckon: func(y, _ int64) int64 { return y }},
	Copy: {text: "copy", parts: [most]part{sets, takes}, reckon: func(y, _ int64) int64 { return y }},
	Add:  {text: "add", parts: [most]part{sets, takes, takes}, reckon: func(y, z int64) int64 { return y + z }},
	Sub:  {text: "sub", parts: [most]part{sets, takes, takes}, reckon: func(y, z int64) int64 { return y - z }},
	Mul:  {text: "mul", parts: [most]part{sets, takes, takes}, reckon: func(y, z int64) int64 { return y * z }},
	Less: {text: "less", parts: [most]part{sets, takes, takes}, reckon: func(y, z int64) int64 {
		if y < z {
			return 1
		}
		return 0
	}},
	Out:  {text: "out", parts: [most]part{takes}},
	Goto: {text: "goto", parts: [most]part{leads}, ends: true},
	If:   {text: "if", parts: [most]part{takes, leads, leads}, ends: true},
	End:  {text: "end", parts: [most]part{takes}, ends: true},
}

// find tells which word a text is.
func find(text string) (Word, bool) {
	switch text {
	case "set":
		return Set, true
	case "copy":
		return Copy, true
	case "add":
		return Add, true
	case "sub":
		return Sub, true
	case "mul":
		return Mul, true
	case "less":
		return Less, true
	case "out":
		return Out, true
	case "goto":
		return Goto, true
	case "if":
		return If, true
	case "end":
		return End, true
	}
	return 0, false
}

// parts tells what stands behind a word in its line.
func (w Word) parts() [most]part {
	switch w {
	case Set:
		return [most]part{sets, number}
	case Copy:
		return [most]part{sets, takes}
	case Add, Sub, Mul, Less:
		return [most]part{sets, takes, takes}
	case Out, End:
		return [most]part{takes}
	case Goto:
		return [most]part{leads}
	case If:
		return [most]part{takes, leads, leads}
	}
	return [most]part{}
}

// Ends tells whether a block ends with such a line.
func (w Word) Ends() bool { return w == Goto || w == If || w == End }

// Reckon tells what a variable is set to by a line that takes y and z, or y alone.
// It is asked only of words whose lines set one.
func (w Word) Reckon(y, z int64) int64 {
	switch w {
	case Add:
		return y + z
	case Sub:
		return y - z
	case Mul:
		return y * z
	case Less:
		if y < z {
			return 1
		}
		return 0
	}
	return y
}
