package ridge_test

import (
	"math/big"
	"regexp"
	"slices"
	"strconv"
	"strings"

	"ridge/api"
	"ridge/ridge"
)

// What the document says of forms, word by word and without haste: lines stay texts and are parted anew at each look.
// What is over what, and where ways meet, the graph tells, which is held against the document elsewhere.

var (
	formVersion    = `[a-z]{1,3}\.(0|[1-9][0-9]{0,2})`
	formArgs       = regexp.MustCompile(`^args( [a-z]{1,3}\.0){0,4}$`)
	formStatement  = regexp.MustCompile(`^(set V (0|-?[1-9][0-9]*)|copy( V){2}|(add|sub|mul|less)( V){3}|out V)$`)
	formTerminator = regexp.MustCompile(`^(goto (0|[1-9][0-9]*)|if V( (0|[1-9][0-9]*)){2}|end V)$`)
	formPhi        = regexp.MustCompile(`^phi V( (0|[1-9][0-9]*):V)*$`)
	formBeginning  = regexp.MustCompile(`^A(BP*S*T)*(BP*S*)?$`)
	formWhole      = regexp.MustCompile(`^A(BP*S*T)+$`)
	aWord          = regexp.MustCompile(`^` + formVersion + `$`)
	afterBlank     = regexp.MustCompile(` [a-z]+`)
	aChoice        = regexp.MustCompile(`^(0|[1-9][0-9]*):` + formVersion + `$`)
)

// formKindOf: A args, B block, P a phi, S a statement, T a terminator, X none.
func formKindOf(line string) string {
	words := strings.Split(line, " ")
	for i, w := range words[1:] {
		digits, _, _ := strings.Cut(w, ":")
		if n, ok := new(big.Int).SetString(digits, 10); ok && (n.Cmp(leastNumber) < 0 || n.Cmp(greatestNumber) > 0) {
			return "X"
		}
		if words[0] == "args" && slices.Contains(words[1:1+i], w) {
			return "X"
		}
		switch { // what is a version becomes V, so that the patterns need not say what one is
		case aWord.MatchString(w) && words[0] != "args":
			words[1+i] = "V"
		case aChoice.MatchString(w):
			words[1+i] = digits + ":V"
		case strings.Contains(w, "V"):
			return "X"
		}
	}
	plainly := strings.Join(words, " ")
	switch {
	case formArgs.MatchString(line):
		return "A"
	case line == "block":
		return "B"
	case formPhi.MatchString(plainly):
		return "P"
	case formStatement.MatchString(plainly):
		return "S"
	case formTerminator.MatchString(plainly):
		return "T"
	}
	return "X"
}

// setIn tells which version a line sets; none: empty.
func setIn(line string) string {
	words := strings.Split(line, " ")
	if slices.Contains([]string{"set", "copy", "add", "sub", "mul", "less", "phi"}, words[0]) {
		return words[1]
	}
	return ""
}

// takenIn lists the versions that a line, but a phi, takes.
func takenIn(line string) []string {
	words := strings.Split(line, " ")
	behind := words[1:]
	if setIn(line) != "" {
		behind = words[2:]
	}
	var list []string
	for _, w := range behind {
		if w[0] >= 'a' && w[0] <= 'z' {
			list = append(list, w)
		}
	}
	return list
}

// blockOf tells in which block a line stands.
func blockOf(list []string, at int) int {
	return len(blocksOf(list[:at])) - 1
}

// graphOf is the blocks as nodes, with edges as the terminators lead.
func graphOf(list []string) *ridge.Graph {
	g, _ := ridge.New(len(blocksOf(list)))
	for i, line := range list {
		for _, n := range blocksNamed(line) {
			g.Add(blockOf(list, i), n)
		}
	}
	return g
}

// leadsTo lists the blocks ahead of a block.
func leadsTo(list []string, block int) []int {
	var ahead []int
	for i, line := range list {
		if contains(blocksNamed(line), block) {
			ahead = append(ahead, blockOf(list, i))
		}
	}
	return ahead
}

func reachedIn(g *ridge.Graph, block int) bool {
	_, e := g.Last(block)
	return e == api.OK
}

func plainVerify(form string) (api.Errno, int) {
	list := strings.Split(form, "\n")
	if len(list) > 1000 {
		return api.ErrLong, 0
	}
	kinds := ""
	for i, line := range list {
		kinds += formKindOf(line)
		if !formBeginning.MatchString(kinds) || strings.Count(kinds, "B") > 40 {
			return api.ErrForm, i
		}
	}
	if !formWhole.MatchString(kinds) {
		return api.ErrForm, len(list)
	}
	for i, line := range list {
		for _, n := range blocksNamed(line) {
			if n >= len(blocksOf(list)) {
				return api.ErrName, i
			}
		}
	}
	for i, line := range list {
		if v := setIn(line); v != "" {
			for _, ahead := range list[:i] {
				if setIn(ahead) == v {
					return api.ErrTwice, i
				}
			}
			if strings.HasSuffix(v, ".0") {
				return api.ErrTwice, i
			}
		}
	}
	for i := range list {
		if kinds[i] == 'P' && !phiFits(list, i) {
			return api.ErrPhi, i
		}
	}
	g := graphOf(list)
	for i, line := range list {
		if b := blockOf(list, i); b < 0 || !reachedIn(g, b) {
			continue
		}
		if kinds[i] == 'P' && !phiMayTake(list, g, line) || kinds[i] != 'P' && !lineMayTake(list, g, i) {
			return api.ErrUse, i
		}
	}
	return api.OK, 0
}

func phiFits(list []string, at int) bool {
	b := blockOf(list, at)
	words := strings.Split(list[at], " ")[2:]
	ahead := leadsTo(list, b)
	slices.Sort(ahead)
	if b == 0 || len(words) != len(ahead) {
		return false
	}
	for i, w := range words {
		if from, _, _ := strings.Cut(w, ":"); from != strconv.Itoa(ahead[i]) {
			return false
		}
	}
	return true
}

// setLine tells in which line a version is set; none: -1.
func setLine(list []string, version string) int {
	return slices.IndexFunc(list, func(line string) bool { return setIn(line) == version })
}

func phiMayTake(list []string, g *ridge.Graph, phi string) bool {
	for _, w := range strings.Split(phi, " ")[2:] {
		digits, version, _ := strings.Cut(w, ":")
		from, _ := strconv.Atoi(digits)
		if !reachedIn(g, from) || strings.HasSuffix(version, ".0") {
			continue
		}
		at := setLine(list, version)
		if at < 0 {
			return false
		}
		if over, _ := g.Over(blockOf(list, at), from); !over {
			return false
		}
	}
	return true
}

func lineMayTake(list []string, g *ridge.Graph, i int) bool {
	for _, version := range takenIn(list[i]) {
		if strings.HasSuffix(version, ".0") {
			continue
		}
		at := setLine(list, version)
		if at < 0 {
			return false
		}
		over, _ := g.Over(blockOf(list, at), blockOf(list, i))
		if same := blockOf(list, at) == blockOf(list, i); same && at >= i || !same && !over {
			return false
		}
	}
	return true
}

// plainExec runs a form that has no fault.
func plainExec(form string, args []int64, fuel int) api.Result {
	list := strings.Split(form, "\n")
	values := map[string]*big.Int{}
	of := func(version string) *big.Int {
		if v := values[version]; v != nil {
			return v
		}
		return new(big.Int)
	}
	for i, version := range strings.Split(list[0], " ")[1:] {
		if i < len(args) {
			values[version] = big.NewInt(args[i])
		}
	}
	trace := ""
	came := -1
	for at := 2; ; at++ {
		words := strings.Split(list[at], " ")
		if words[0] == "phi" {
			at = plainPhis(list, at, came, of, values)
			words = strings.Split(list[at], " ")
		}
		if fuel == 0 {
			return api.Result{Trace: strings.TrimPrefix(trace, " ")}
		}
		fuel--
		switch words[0] {
		case "out":
			trace += " " + of(words[1]).String()
		case "goto", "if":
			which := 0
			if words[0] == "if" && of(words[1]).Sign() == 0 {
				which = 1
			}
			came = blockOf(list, at)
			at = blocksOf(list)[blocksNamed(list[at])[which]]
		case "end":
			return api.Result{Ended: true, Value: of(words[1]).Int64(), Trace: strings.TrimPrefix(trace, " ")}
		default:
			values[words[1]] = plainReckon(words, of)
		}
	}
}

// plainPhis does the phis from a line on, and tells the first line behind them.
func plainPhis(list []string, at, came int, of func(string) *big.Int, values map[string]*big.Int) int {
	become := map[string]*big.Int{}
	for ; strings.HasPrefix(list[at], "phi "); at++ {
		words := strings.Split(list[at], " ")
		for _, w := range words[2:] {
			if version, ok := strings.CutPrefix(w, strconv.Itoa(came)+":"); ok {
				become[words[1]] = of(version)
			}
		}
	}
	for version, n := range become {
		values[version] = n
	}
	return at
}

// plainConvert makes the form of a program that has no fault.
func plainConvert(program string) string {
	list := []string{"args", "block", "goto 1"}
	from := strings.Split(program, "\n")
	for i, line := range from[1:] {
		words := strings.Split(line, " ")
		for j, w := range words {
			if n, err := strconv.Atoi(w); err == nil && blocksNamed(from[1+i]) != nil {
				words[j] = strconv.Itoa(n + 1)
			}
		}
		list = append(list, strings.Join(words, " "))
	}
	list = plainPhisLaid(plainClosed(list))
	g := graphOf(list)
	sets := map[int]string{} // the number of a line: the version that it sets
	plainNumbers(list, g, 0, map[string]int{}, sets)
	out := []string{afterBlank.ReplaceAllString(from[0], "$0.0")}
	for i, line := range list[1:] {
		out = append(out, plainLine(list, g, 1+i, strings.Split(line, " "), sets))
	}
	return strings.Join(out, "\n")
}

// plainClosed gives each block that is not reached its only line.
func plainClosed(list []string) []string {
	g := graphOf(list)
	out := []string{list[0]}
	for i, line := range list[1:] {
		b := blockOf(list, 2+i) // of the line itself: `block` counts as of the block that it begins
		switch {
		case line == "block" || reachedIn(g, b):
			out = append(out, line)
		case list[i] == "block":
			out = append(out, "goto "+strconv.Itoa(b))
		}
	}
	return out
}

// plainPhisLaid lays the phis, as yet without versions, where they belong.
func plainPhisLaid(list []string) []string {
	g := graphOf(list)
	in := map[string][]int{} // a name: the blocks in which it is set
	for i, line := range list {
		if x := setIn(line); x != "" && reachedIn(g, blockOf(list, i)) {
			in[x] = append(in[x], blockOf(list, i))
		}
	}
	phis := make([][]string, len(blocksOf(list)))
	for x, blocks := range in {
		meets, _ := g.Meets(append(blocks, 0))
		for _, b := range meets {
			phi := "phi " + x
			for a := range phis {
				if contains(leadsTo(list, b), a) {
					phi += " " + strconv.Itoa(a) + ":" + x
				}
			}
			phis[b] = append(phis[b], phi)
		}
	}
	var out []string
	for i, line := range list {
		out = append(out, line)
		if line == "block" {
			mine := phis[blockOf(list, i+1)]
			slices.SortFunc(mine, func(p, q string) int {
				return strings.Compare(setIn(p), setIn(q))
			})
			out = append(out, mine...)
		}
	}
	return out
}

// plainNumbers says for a block, and all that follows from it, which version each line sets.
func plainNumbers(list []string, g *ridge.Graph, block int, given map[string]int, sets map[int]string) {
	for i, line := range list {
		if x := setIn(line); x != "" && blockOf(list, i) == block {
			given[x]++
			sets[i] = x + "." + strconv.Itoa(given[x])
		}
	}
	for b := range blocksOf(list) {
		if last, e := g.Last(b); e == api.OK && last == block {
			plainNumbers(list, g, b, given, sets)
		}
	}
}

// plainCounts tells the version that counts ahead of a line, by going back line by line, and from a block to the last one over it.
func plainCounts(list []string, g *ridge.Graph, at int, x string, sets map[int]string) string {
	for {
		b := blockOf(list, at)
		for at--; list[at] != "block"; at-- {
			if setIn(list[at]) == x {
				return sets[at]
			}
		}
		last, _ := g.Last(b)
		if b == 0 || last < 0 {
			return x + ".0"
		}
		at = behindBlock(list, last)
	}
}

// behindBlock tells the number of the line behind a block's last one.
func behindBlock(list []string, block int) int {
	if begins := blocksOf(list); block+1 < len(begins) {
		return begins[block+1]
	}
	return len(list)
}

// plainLine writes a line with its versions.
func plainLine(list []string, g *ridge.Graph, at int, words []string, sets map[int]string) string {
	behind := 1
	if setIn(list[at]) != "" {
		behind = 2
	}
	for i := behind; i < len(words); i++ {
		digits, name, _ := strings.Cut(words[i], ":")
		from, _ := strconv.Atoi(digits)
		switch {
		case words[0] == "phi":
			words[i] = digits + ":" + plainCounts(list, g, behindBlock(list, from), name, sets)
		case words[i][0] >= 'a' && words[i][0] <= 'z':
			words[i] = plainCounts(list, g, at, words[i], sets)
		}
	}
	if behind == 2 {
		words[1] = sets[at]
	}
	return strings.Join(words, " ")
}
