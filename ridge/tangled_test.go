package ridge_test

import (
	"slices"
	"strconv"
	"strings"

	"ridge/ridge"
)

// tangle makes a form by dice that is well made and in which much can be tidied: first where the terminators lead,
// then which versions the blocks set, then what the lines take.
type tangle struct {
	*dice
	leads [][]int
	lends [][]bool   // of two blocks, whether the second may take what the first sets
	phis  [][]string // of each block the versions that its phis set
	sets  [][]string // and those that its statements set
}

// tangled makes such a form of so many blocks, with less than so many statements, and so many phis, in each.
func tangled(d *dice, blocks, statements, phis int) string {
	t := tangle{dice: d, leads: make([][]int, blocks), phis: make([][]string, blocks), sets: make([][]string, blocks)}
	t.lead()
	given := 0
	fresh := func() string {
		given++
		return []string{"a", "b", "zzz"}[given%3] + "." + strconv.Itoa(given)
	}
	for b := range blocks {
		for range d.roll(phis) * min(b, 1) {
			t.phis[b] = append(t.phis[b], fresh())
		}
		for range d.roll(statements) {
			t.sets[b] = append(t.sets[b], fresh())
		}
	}
	list := []string{[]string{"args", "args a.0", "args b.0 a.0", "args zzz.0 c.0 a.0 b.0"}[d.roll(4)]}
	for b := range blocks {
		list = append(list, t.block(b)...)
	}
	return strings.Join(list, "\n")
}

// lead says where the terminators lead, and which blocks may take what others set. What is not reached may take anything.
func (t *tangle) lead() {
	blocks := len(t.leads)
	g, _ := ridge.New(blocks)
	for b := range blocks {
		for range []int{0, 1, 1, 2, 2, 2, 2, 2}[t.roll(8)] {
			to := []int{t.roll(blocks), min(b+1, blocks-1), min(b+2, blocks-1)}[t.roll(3)]
			t.leads[b] = append(t.leads[b], to)
			g.Add(b, to)
		}
	}
	for a := range blocks {
		var lends []bool
		for b := range blocks {
			over, _ := g.Over(a, b)
			reached, _ := g.Over(0, b)
			lends = append(lends, over || !reached)
		}
		t.lends = append(t.lends, lends)
	}
}

// behind lists the versions that may be taken behind a block (its own statements: so many of them).
func (t *tangle) behind(b, own int) []string {
	list := []string{"a.0", "b.0", "c.0"}
	for a := range t.sets {
		switch {
		case a == b:
			list = append(append(list, t.phis[a]...), t.sets[a][:own]...)
		case t.lends[a][b]:
			list = append(append(list, t.phis[a]...), t.sets[a]...)
		}
	}
	return list
}

func (t *tangle) pick(list []string) string {
	return list[max(t.roll(len(list)), t.roll(len(list)))] // rather those that are set late
}

// phi often takes one version only, or its own besides.
func (t *tangle) phi(b int, version string) string {
	phi := "phi " + version
	favourite := ""
	for a := range t.leads {
		if !contains(t.leads[a], b) {
			continue
		}
		may := t.behind(a, len(t.sets[a]))
		v := t.pick(may)
		if favourite == "" {
			favourite = v
		}
		switch roll := t.roll(10); {
		case roll < 4 && slices.Contains(may, favourite):
			v = favourite
		case roll < 7 && slices.Contains(may, version):
			v = version
		}
		phi += " " + strconv.Itoa(a) + ":" + v
	}
	return phi
}

func (t *tangle) statement(version string, may []string) string {
	take := func() string { return " " + t.pick(may) }
	switch t.roll(6) {
	case 0, 1:
		return "set " + version + " " + []string{"0", "1", "0", "-3", "1000000000"}[t.roll(5)]
	case 2:
		return "copy " + version + take()
	default:
		return []string{"add ", "sub ", "mul ", "less "}[t.roll(4)] + version + take() + take()
	}
}

func (t *tangle) block(b int) []string {
	list := []string{"block"}
	for _, version := range t.phis[b] {
		list = append(list, t.phi(b, version))
	}
	for i, version := range t.sets[b] {
		list = append(list, t.statement(version, t.behind(b, i)))
		if t.roll(3) == 0 {
			list = append(list, "out "+t.pick(t.behind(b, i+1)))
		}
	}
	may := t.behind(b, len(t.sets[b]))
	switch leads := t.leads[b]; len(leads) {
	case 0:
		return append(list, "end "+t.pick(may))
	case 1:
		return append(list, "goto "+strconv.Itoa(leads[0]))
	default:
		on := []string{"a.0", "b.0", t.pick(may), t.pick(may)}[t.roll(4)]
		return append(list, "if "+on+" "+strconv.Itoa(leads[0])+" "+strconv.Itoa(leads[1]))
	}
}
