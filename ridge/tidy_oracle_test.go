package ridge_test

import (
	"fmt"
	"slices"
	"strings"

	"ridge/api"
	"ridge/ridge"
)

// What the document promises of a tidied form, word by word, of texts.

// trial is arguments and fuel with which forms are run.
type trial struct {
	args []int64
	fuel int
}

// trials lists all arguments with all of the fuels.
func trials(fuels ...int) []trial {
	var list []trial
	for _, args := range [][]int64{nil, {1}, {0, 1}, {2, 1, -1}, {5, 0, 3, 1}, {-1, -1, 0, 2}} {
		for _, fuel := range fuels {
			list = append(list, trial{args, fuel})
		}
	}
	return list
}

// upTo lists the numbers from 0 to n, and the most fuel that may be.
func upTo(n int) []int {
	list := []int{api.MaxFuel}
	for i := range n + 1 {
		list = append(list, i)
	}
	return list
}

// untidy tells which promise a form breaks as the tidied one of another form, which has no fault; none: empty.
func untidy(form, tidy string, runs []trial) string {
	if e, at := plainVerify(tidy); e != api.OK {
		return fmt.Sprintf("Verify: %d, %d", e, at)
	}
	from, list := strings.Split(form, "\n"), strings.Split(tidy, "\n")
	if len(list) > len(from) {
		return fmt.Sprintf("lines: %d, not %d", len(list), len(from))
	}
	g := graphOf(list)
	for b := range blocksOf(list) {
		if !reachedIn(g, b) {
			return fmt.Sprintf("reached: not block %d", b)
		}
	}
	for _, line := range list {
		switch words := strings.Split(line, " "); {
		case words[0] == "if" && knownIn(list, words[1]):
			return "if: " + line
		case words[0] == "phi" && len(othersIn(words)) < 2:
			return "phi: " + line
		}
	}
	for _, r := range runs {
		a, _, _ := ridge.Exec(form, r.args, r.fuel)
		b, _, _ := ridge.Exec(tidy, r.args, r.fuel)
		if a.Ended && a != b || !begins(a.Trace, b.Trace) && !begins(b.Trace, a.Trace) {
			return fmt.Sprintf("run: with %v and %d %+v, not %+v", r.args, r.fuel, b, a)
		}
	}
	return ""
}

// knownIn tells whether a version is set by a `set`, or is a version 0 that is not in args.
func knownIn(list []string, version string) bool {
	if strings.HasSuffix(version, ".0") {
		return !slices.Contains(strings.Split(list[0], " ")[1:], version)
	}
	return strings.HasPrefix(list[setLine(list, version)], "set ")
}

// othersIn lists the versions, each once and its own aside, that a phi takes.
func othersIn(phi []string) []string {
	var others []string
	for _, w := range phi[2:] {
		if _, v, _ := strings.Cut(w, ":"); v != phi[1] && !slices.Contains(others, v) {
			others = append(others, v)
		}
	}
	return others
}

// begins tells whether a trace is the beginning of another one, number by number.
func begins(short, long string) bool {
	return short == "" || strings.HasPrefix(long+" ", short+" ")
}
