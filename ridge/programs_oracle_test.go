package ridge_test

import (
	"math/big"
	"regexp"
	"strconv"
	"strings"

	"ridge/api"
)

// What the document says of programs, word by word and without haste: lines by patterns, numbers without an end, blocks counted anew at each step.

var (
	argsLine       = regexp.MustCompile(`^args( [a-z]{1,3}){0,4}$`)
	statementLine  = regexp.MustCompile(`^(set [a-z]{1,3} (0|-?[1-9][0-9]*)|copy( [a-z]{1,3}){2}|(add|sub|mul|less)( [a-z]{1,3}){3}|out [a-z]{1,3})$`)
	terminatorLine = regexp.MustCompile(`^(goto (0|[1-9][0-9]*)|if [a-z]{1,3}( (0|[1-9][0-9]*)){2}|end [a-z]{1,3})$`)
	beginning      = regexp.MustCompile(`^A(BS*T)*(BS*)?$`)
	whole          = regexp.MustCompile(`^A(BS*T)+$`)
	leastNumber    = big.NewInt(-1000000000)
	greatestNumber = big.NewInt(1000000000)
	allNumbers     = new(big.Int).Lsh(big.NewInt(1), 64)
)

// kindOf: A args, B block, S a statement, T a terminator, X none.
func kindOf(line string) string {
	words := strings.Split(line, " ")
	for i, w := range words[1:] {
		if n, ok := new(big.Int).SetString(w, 10); ok && (n.Cmp(leastNumber) < 0 || n.Cmp(greatestNumber) > 0) {
			return "X"
		}
		for _, v := range words[1 : 1+i] {
			if words[0] == "args" && v == w {
				return "X"
			}
		}
	}
	switch {
	case argsLine.MatchString(line):
		return "A"
	case line == "block":
		return "B"
	case statementLine.MatchString(line):
		return "S"
	case terminatorLine.MatchString(line):
		return "T"
	}
	return "X"
}

// blocksOf lists the numbers of the lines that begin the blocks.
func blocksOf(list []string) []int {
	var at []int
	for i, line := range list {
		if line == "block" {
			at = append(at, i)
		}
	}
	return at
}

func plainCheck(program string) (api.Errno, int) {
	list := strings.Split(program, "\n")
	if len(list) > 120 {
		return api.ErrLong, 0
	}
	kinds := ""
	for i, line := range list {
		kinds += kindOf(line)
		if !beginning.MatchString(kinds) || strings.Count(kinds, "B") > 20 {
			return api.ErrForm, i
		}
	}
	if !whole.MatchString(kinds) {
		return api.ErrForm, len(list)
	}
	for i, line := range list {
		for _, n := range blocksNamed(line) {
			if n >= len(blocksOf(list)) {
				return api.ErrName, i
			}
		}
	}
	names := map[string]bool{}
	for i, line := range list {
		for _, w := range strings.Split(line, " ")[1:] {
			if w[0] >= 'a' && w[0] <= 'z' {
				names[w] = true
			}
		}
		if len(names) > 8 {
			return api.ErrMany, i
		}
	}
	return api.OK, 0
}

func blocksNamed(line string) []int {
	words := strings.Split(line, " ")
	var named []string
	switch words[0] {
	case "goto":
		named = words[1:]
	case "if":
		named = words[2:]
	}
	var list []int
	for _, w := range named {
		n, _ := strconv.Atoi(w)
		list = append(list, n)
	}
	return list
}

// wrapped brings a number back among those of 64 bits with a sign.
func wrapped(n *big.Int) *big.Int {
	r := new(big.Int).Mod(n, allNumbers)
	if r.Bit(63) == 1 {
		r.Sub(r, allNumbers)
	}
	return r
}

// plainRun runs a program that has no fault.
func plainRun(program string, args []int64, fuel int) api.Result {
	list := strings.Split(program, "\n")
	values := map[string]*big.Int{}
	of := func(name string) *big.Int {
		if v := values[name]; v != nil {
			return v
		}
		return new(big.Int)
	}
	for i, name := range strings.Split(list[0], " ")[1:] {
		if i < len(args) {
			values[name] = big.NewInt(args[i])
		}
	}
	trace := ""
	for at := 2; ; at++ {
		if fuel == 0 {
			return api.Result{Trace: strings.TrimPrefix(trace, " ")}
		}
		fuel--
		words := strings.Split(list[at], " ")
		switch words[0] {
		case "out":
			trace += " " + of(words[1]).String()
		case "goto":
			at = blocksOf(list)[blocksNamed(list[at])[0]]
		case "if":
			which := 0
			if of(words[1]).Sign() == 0 {
				which = 1
			}
			at = blocksOf(list)[blocksNamed(list[at])[which]]
		case "end":
			return api.Result{Ended: true, Value: of(words[1]).Int64(), Trace: strings.TrimPrefix(trace, " ")}
		default:
			values[words[1]] = plainReckon(words, of)
		}
	}
}

func plainReckon(words []string, of func(string) *big.Int) *big.Int {
	r := new(big.Int)
	switch words[0] {
	case "set":
		r.SetString(words[2], 10)
	case "copy":
		r.Set(of(words[2]))
	case "add":
		r.Add(of(words[2]), of(words[3]))
	case "sub":
		r.Sub(of(words[2]), of(words[3]))
	case "mul":
		r.Mul(of(words[2]), of(words[3]))
	case "less":
		if of(words[2]).Cmp(of(words[3])) < 0 {
			r.SetInt64(1)
		}
	}
	return wrapped(r)
}
