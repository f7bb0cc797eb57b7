package ridge_test

import (
	"fmt"
	"strconv"
	"strings"
	"testing"

	"ridge/api"
	"ridge/ridge"
)

// wantTidy holds what Tidy makes of a form, which has no fault, against all that the document promises, and tells it.
func wantTidy(t *testing.T, form string, runs []trial) string {
	t.Helper()
	if e, at := ridge.Verify(form); e != api.OK {
		t.Fatalf("Verify(%q) = %d, %d", form, e, at)
	}
	tidy, e, at := ridge.Tidy(form)
	if e != api.OK || at != 0 {
		t.Fatalf("Tidy(%q) = %q, %d, %d", form, tidy, e, at)
	}
	if why := untidy(form, tidy, runs); why != "" {
		t.Fatalf("Tidy(%q) = %q: %s", form, tidy, why)
	}
	if e, at := ridge.Verify(tidy); e != api.OK || at != 0 {
		t.Fatalf("Tidy(%q) = %q: Verify of it %d, %d", form, tidy, e, at)
	}
	if again, e, at := ridge.Tidy(tidy); again != tidy || e != api.OK || at != 0 {
		t.Fatalf("Tidy(%q) = %q: Tidy of it %q, %d, %d", form, tidy, again, e, at)
	}
	if twin, _, _ := ridge.Tidy(form); twin != tidy {
		t.Fatalf("Tidy(%q) is now %q, now %q", form, tidy, twin)
	}
	return tidy
}

// wantTidied also says which form is made: the program's business, but it should not change unseen.
func wantTidied(t *testing.T, list, want string) {
	t.Helper()
	if tidy := wantTidy(t, lined(list), trials(upTo(40)...)); tidy != lined(want) {
		t.Errorf("Tidy(%q) =\n%s\nwant\n%s", list, tidy, lined(want))
	}
}

// What is held against the promises is seen, if it breaks one of them.
func TestUntidyIsSeen(t *testing.T) {
	known := "args x.0, block, set c.1 1, if c.1 1 2, block, out x.0, end x.0, block, out c.1, end c.1"
	loop := "args x.0, block, set k.1 1, goto 1, block, phi y.1 0:x.0 1:y.2, out y.1, sub y.2 y.1 k.1, if y.2 1 2, block, end y.1"
	for _, c := range []struct{ form, tidy, why string }{
		{known, "args x.0, block, goto 1, block, out x.0, end x.0", ""},
		{known, "args x.0, block, out x.0, end x.0", ""},
		{known, "", "Verify"},
		{known, "args x.0, block, goto 1, block, out x.1, end x.0", "Verify"},
		{known, "args x.0, block, goto 2, block, out x.0, end x.0", "Verify"},
		{known, "args x.0, block, set c.1 1, goto 1, block, goto 2, block, goto 3, block, out x.0, end x.0", "lines"},
		{known, "args x.0, block, goto 1, block, out x.0, end x.0, block, end x.0", "reached"},
		{known, "args x.0, block, goto 1, block, out x.0, end x.0, block, goto 1", "reached"},
		{known, known, "if"},
		{known, "args x.0, block, if y.0 0 1, block, out x.0, end x.0", "if"},
		{known, "args x.0, block, set c.1 1, if c.1 1 1, block, out x.0, end x.0", "if"},
		{known, "args x.0, block, goto 1, block, phi y.1 0:x.0, out y.1, end x.0", "phi"},
		{known, "args x.0, block, goto 1, block, out x.0, end y.0", "run"},
		{known, "args x.0, block, goto 1, block, out y.0, end x.0", "run"},
		{known, "args x.0, block, goto 1, block, end x.0", "run"},
		{known, "args x.0, block, out x.0, out x.0, end x.0", "run"},
		{known, "args y.0, block, out x.0, end x.0", "run"},
		{known, "args x.0, block, goto 1, block, goto 2, block, goto 3, block, out x.0, end x.0", "run"},
		{loop, loop, ""},
		{loop, strings.Replace(loop, "set k.1 1", "set k.1 -1", 1), "run"},
		{loop, strings.Replace(loop, "1:y.2", "1:x.0", 1), "phi"},
		{loop, strings.Replace(loop, "1:y.2", "1:y.1", 1), "phi"},
		{loop, strings.Replace(loop, "1:y.2", "1:k.1", 1), "run"},
		{loop, strings.Replace(loop, "1 2", "2 1", 1), "run"},
	} {
		why := untidy(lined(c.form), lined(c.tidy), trials(upTo(30)...))
		if kind, _, _ := strings.Cut(why, ":"); kind != c.why {
			t.Errorf("%q, of %q: %q, want %q", c.tidy, c.form, why, c.why)
		}
	}
}

// P11: example 5 of the document.
func TestTidyExampleFive(t *testing.T) {
	wantTidied(t, "args x.0, block, set c.1 1, if c.1 1 2, block, end x.0, block, end c.1", "args x.0, block, goto 1, block, end x.0")
}

// P11: forms with nothing to tidy stay as they are.
func TestTidyLeavesTheTidy(t *testing.T) {
	for _, list := range []string{
		"args, block, end x.0",
		"args, block, goto 0",
		"args x.0, block, out x.0, goto 0",
		"args d.0 c.0 bb.0 aaa.0, block, end x.0",
		"args x.0, block, if x.0 0 1, block, end x.0",
		"args x.0, block, if x.0 1 2, block, end x.0, block, end y.0",
		"args x.0, block, if x.0 2 1, block, set y.7 1, end y.7, block, end y.0",
		"args x.0, block, copy c.1 x.0, if c.1 1 2, block, end c.1, block, end x.0",
		"args x.0, block, goto 2, block, end x.0, block, goto 1",
		"args x.0, block, set k.1 1, goto 1, block, phi y.1 0:x.0 1:y.2, out y.1, sub y.2 y.1 k.1, if y.2 1 2, block, end y.1",
		"args n.0 a.0 b.0, block, set k.1 1, goto 1, block, phi n.1 0:n.0 2:n.2, phi a.1 0:a.0 2:b.1, phi b.1 0:b.0 2:a.1, if n.1 2 3, block, sub n.2 n.1 k.1, goto 1, block, out a.1, out b.1, end a.1",
	} {
		wantTidied(t, list, list)
	}
}

// P11: an `if` on a version 0 that is in args, on one that is not, and on versions that are set to 0 and to other numbers.
func TestTidyIfs(t *testing.T) {
	ways := " 1 2, block, out x.0, end x.0, block, out y.0, end y.0"
	wantTidied(t, "args x.0, block, if x.0"+ways, "args x.0, block, if x.0"+ways)
	wantTidied(t, "args y.0 x.0, block, if x.0"+ways, "args y.0 x.0, block, if x.0"+ways)
	wantTidied(t, "args x.0, block, if y.0"+ways, "args x.0, block, goto 1, block, out y.0, end y.0")
	wantTidied(t, "args, block, if x.0"+ways, "args, block, goto 1, block, out y.0, end y.0")
	for _, n := range []string{"1", "-1", "1000000000", "-1000000000", "7"} {
		wantTidied(t, "args x.0, block, set c.1 "+n+", if c.1"+ways, "args x.0, block, goto 1, block, out x.0, end x.0")
	}
	wantTidied(t, "args x.0, block, set c.1 0, if c.1"+ways, "args x.0, block, goto 1, block, out y.0, end y.0")
	wantTidied(t, "args x.0, block, set x.1 0, if x.1"+ways, "args x.0, block, goto 1, block, out y.0, end y.0")
	wantTidied(t, "args x.0, block, set x.1 0, if x.0"+ways, "args x.0, block, if x.0"+ways)
	// set in another block, and taken elsewhere too
	wantTidied(t, "args x.0, block, set c.1 0, out c.1, goto 3"+strings.ReplaceAll(ways, " 1 2", "")+", block, if c.1 1 2",
		"args x.0, block, set c.1 0, out c.1, goto 2, block, out y.0, end y.0, block, goto 1")
}

// P11: an `if` both of whose ways lead to one block, with and without phis there.
func TestTidyIfsWithOneWay(t *testing.T) {
	wantTidied(t, "args x.0, block, if x.0 1 1, block, end x.0", "args x.0, block, goto 1, block, end x.0")
	wantTidied(t, "args x.0, block, set c.1 0, if c.1 1 1, block, end c.1", "args x.0, block, set c.1 0, goto 1, block, end c.1")
	wantTidied(t, "args x.0, block, if y.0 1 1, block, phi z.1 0:x.0, end z.1", "args x.0, block, goto 1, block, end x.0")
	wantTidied(t, "args x.0, block, if x.0 1 1, block, phi y.1 0:x.0, if y.1 2 3, block, end y.1, block, end z.0",
		"args x.0, block, goto 1, block, if x.0 2 3, block, end x.0, block, end z.0")
	wantTidied(t, "args x.0, block, if x.0 0 0", "args x.0, block, goto 0")
	// the block stays ahead, so its version stays in the phi
	wantTidied(t, "args x.0, block, if x.0 1 2, block, set c.1 1, if c.1 2 2, block, phi d.1 0:x.0 1:c.1, end d.1",
		"args x.0, block, if x.0 1 2, block, set c.1 1, goto 2, block, phi d.1 0:x.0 1:c.1, end d.1")
}

// P11: blocks that are not reached at first, and such as no way leads to any more.
func TestTidyBlocksAway(t *testing.T) {
	wantTidied(t, "args, block, end x.0, block, out x.0, goto 1, block, goto 1", "args, block, end x.0")
	wantTidied(t, "args, block, end x.0, block, phi y.1 1:z.9, out u.5, copy v.1 v.1, goto 1", "args, block, end x.0")
	wantTidied(t, "args x.0, block, goto 3, block, goto 2, block, goto 1, block, if x.0 3 5, block, goto 5, block, end x.0",
		"args x.0, block, goto 1, block, if x.0 1 2, block, end x.0")
	// a block that is not reached leads to one that is, and its phi has it
	wantTidied(t, "args x.0, block, goto 2, block, goto 2, block, phi y.1 0:x.0 1:z.9, end y.1", "args x.0, block, goto 1, block, end x.0")
	wantTidied(t, "args x.0, block, if x.0 1 3, block, goto 3, block, set y.1 2, goto 3, block, phi y.2 0:x.0 1:y.0 2:y.1, end y.2",
		"args x.0, block, if x.0 1 2, block, goto 2, block, phi y.2 0:x.0 1:y.0, end y.2")
	// a loop to which no way leads any more; an `if` in it is known too
	wantTidied(t, "args x.0, block, set k.1 0, if k.1 1 3, block, out k.1, goto 2, block, if k.1 1 3, block, end x.0",
		"args x.0, block, goto 1, block, end x.0")
	// a block that stays, since another way leads to it
	wantTidied(t, "args x.0, block, if x.0 1 2, block, set k.1 0, if k.1 2 3, block, out x.0, goto 3, block, end x.0",
		"args x.0, block, if x.0 1 2, block, goto 3, block, out x.0, goto 3, block, end x.0")
}

// P11: a phi with one block ahead, one that loses blocks ahead, and what follows from that.
func TestTidyPhisThatLoseBlocks(t *testing.T) {
	wantTidied(t, "args x.0, block, goto 1, block, phi y.1 0:x.0, out y.1, end y.1", "args x.0, block, goto 1, block, out x.0, end x.0")
	wantTidied(t, "args x.0, block, goto 1, block, phi y.1 0:z.0, out y.1, end y.1", "args x.0, block, goto 1, block, out z.0, end z.0")
	wantTidied(t, "args x.0, block, set k.1 1, if k.1 1 2, block, goto 2, block, phi y.1 0:x.0 1:k.1, out y.1, end y.1",
		"args x.0, block, set k.1 1, goto 1, block, goto 2, block, out k.1, end k.1")
	wantTidied(t, "args x.0, block, set k.1 0, if k.1 1 2, block, goto 2, block, phi y.1 0:x.0 1:k.1, out y.1, end y.1",
		"args x.0, block, goto 1, block, out x.0, end x.0")
	// two of three blocks are left, with new numbers
	wantTidied(t, "args x.0, block, set k.1 0, if k.1 1 2, block, goto 5, block, if x.0 3 4, block, set a.1 3, goto 5, block, set b.1 4, goto 5, block, phi y.1 1:k.1 3:a.1 4:b.1, out y.1, end y.1",
		"args x.0, block, goto 1, block, if x.0 2 3, block, set a.1 3, goto 4, block, set b.1 4, goto 4, block, phi y.1 2:a.1 3:b.1, out y.1, end y.1")
	// one settled `if` after the other
	wantTidied(t, "args x.0, block, set k.1 1, if k.1 1 2, block, set a.1 0, goto 3, block, set b.1 1, goto 3, block, phi c.1 1:a.1 2:b.1, if c.1 4 5, block, out x.0, end x.0, block, phi d.1 3:c.1, if d.1 4 6, block, out d.1, end k.1",
		"args x.0, block, set k.1 1, goto 1, block, set a.1 0, goto 2, block, goto 3, block, goto 4, block, out a.1, end k.1")
	// a phi of versions that are all set to one number is no set
	same := "args x.0, block, if x.0 1 2, block, set a.1 1, goto 3, block, set b.1 1, goto 3, block, phi c.1 1:a.1 2:b.1, if c.1 4 5, block, end a.0, block, end b.0"
	wantTidied(t, same, same)
}

// P11: phis that take themselves and one other version, each other, and versions 0.
func TestTidyIdlePhis(t *testing.T) {
	wantTidied(t, "args x.0, block, goto 1, block, phi y.1 0:x.0 1:y.1, out y.1, if x.0 1 2, block, end y.1",
		"args x.0, block, goto 1, block, out x.0, if x.0 1 2, block, end x.0")
	wantTidied(t, "args x.0, block, goto 1, block, phi y.1 0:z.0 1:y.1, out y.1, if y.1 1 2, block, end y.1",
		"args x.0, block, goto 1, block, out z.0, goto 2, block, end z.0")
	wantTidied(t, "args x.0 y.0, block, goto 1, block, phi a.1 0:x.0 3:a.2, if a.1 2 3, block, goto 3, block, phi a.2 1:a.1 2:a.1, out a.2, if y.0 1 4, block, end a.2",
		"args x.0 y.0, block, goto 1, block, if x.0 2 3, block, goto 3, block, out x.0, if y.0 1 4, block, end x.0")
	// each of two takes the other one: neither takes one version only
	each := "args x.0, block, goto 1, block, phi a.1 0:x.0 1:b.1, phi b.1 0:x.0 1:a.1, out a.1, if x.0 1 2, block, end b.1"
	wantTidied(t, each, each)
	// .. unless one of them is known to be idle
	wantTidied(t, "args x.0, block, goto 1, block, phi a.1 0:x.0 1:b.1, phi b.1 0:x.0 1:b.1, out a.1, if x.0 1 2, block, end b.1",
		"args x.0, block, goto 1, block, out x.0, if x.0 1 2, block, end x.0")
	// a phi behind a phi behind a phi, from the last to the first
	wantTidied(t, "args x.0, block, goto 1, block, phi a.1 0:x.0 1:b.1, phi b.1 0:x.0 1:c.1, phi c.1 0:x.0 1:x.0, out a.1, if x.0 1 2, block, end b.1",
		"args x.0, block, goto 1, block, out x.0, if x.0 1 2, block, end x.0")
	wantTidied(t, "args x.0, block, copy a.1 x.0, goto 1, block, phi a.2 0:a.1, goto 2, block, phi a.3 1:a.2, goto 3, block, phi a.4 2:a.3, end a.4",
		"args x.0, block, copy a.1 x.0, goto 1, block, goto 2, block, goto 3, block, end a.1")
	// what an idle phi takes is set anew each time round
	wantTidied(t, "args n.0, block, set k.1 1, goto 1, block, phi n.1 0:n.0 3:n.2, sub n.2 n.1 k.1, goto 2, block, phi m.1 1:n.2 2:m.1, phi j.1 1:k.1 2:z.0, out m.1, if j.1 2 3, block, out m.1, if m.1 1 4, block, end m.1",
		"args n.0, block, set k.1 1, goto 1, block, phi n.1 0:n.0 3:n.2, sub n.2 n.1 k.1, goto 2, block, phi j.1 1:k.1 2:z.0, out n.2, if j.1 2 3, block, out n.2, if n.2 1 4, block, end n.2")
	// two phis that take the same ones are no idle phis
	twins := "args x.0, block, if x.0 1 2, block, set y.1 1, goto 3, block, goto 3, block, phi a.1 1:y.1 2:y.0, phi b.1 1:y.1 2:y.0, out a.1, end b.1"
	wantTidied(t, twins, twins)
}

// P11: loops of one block.
func TestTidyLoopsOfOneBlock(t *testing.T) {
	wantTidied(t, "args, block, goto 0", "args, block, goto 0")
	wantTidied(t, "args, block, if x.0 0 0", "args, block, goto 0")
	wantTidied(t, "args, block, set x.1 1, out x.1, if x.1 0 1, block, end x.0", "args, block, set x.1 1, out x.1, goto 0")
	wantTidied(t, "args, block, set x.1 0, out x.1, if x.1 0 1, block, end x.0", "args, block, set x.1 0, out x.1, goto 1, block, end x.0")
	wantTidied(t, "args, block, goto 1, block, phi x.1 0:x.0 1:x.1, goto 1", "args, block, goto 1, block, goto 1")
	wantTidied(t, "args, block, goto 1, block, phi x.1 0:x.0 1:x.2, set x.2 0, out x.1, if x.2 1 2, block, end x.1",
		"args, block, goto 1, block, out x.0, goto 2, block, end x.0")
	wantTidied(t, "args, block, goto 1, block, phi x.1 0:x.0 1:x.2, set x.2 1, out x.1, if x.2 1 2, block, end x.1",
		"args, block, goto 1, block, phi x.1 0:x.0 1:x.2, set x.2 1, out x.1, goto 1")
	wantTidied(t, "args, block, end x.0, block, phi x.1 1:x.1, goto 1", "args, block, end x.0")
}

// P11: lines on which nothing hangs go, those that only take each other among them; all others stay.
func TestTidyNeedlessLines(t *testing.T) {
	wantTidied(t, "args x.0, block, set a.1 1, copy b.1 a.1, add c.1 b.1 a.1, sub d.1 c.1 x.0, mul e.1 d.1 d.1, less f.1 e.1 d.1, end x.0", "args x.0, block, end x.0")
	wantTidied(t, "args x.0, block, set a.1 1, copy b.1 a.1, add c.1 b.1 a.1, sub d.1 c.1 x.0, mul e.1 d.1 d.1, less f.1 e.1 d.1, end c.1",
		"args x.0, block, set a.1 1, copy b.1 a.1, add c.1 b.1 a.1, end c.1")
	wantTidied(t, "args x.0, block, set k.1 1, goto 1, block, phi i.1 0:i.0 1:i.2, phi x.1 0:x.0 1:x.2, add i.2 i.1 k.1, sub x.2 x.1 k.1, if x.2 1 2, block, end x.1",
		"args x.0, block, set k.1 1, goto 1, block, phi x.1 0:x.0 1:x.2, sub x.2 x.1 k.1, if x.2 1 2, block, end x.1")
	// of the form of example 3 only i is needed from round to round
	wantTidied(t, exampleThree, "args n.0, block, goto 1, block, set i.1 0, goto 2, block, phi i.2 1:i.1 3:i.3, less c.2 i.2 n.0, if c.2 3 4, block, out i.2, set k.2 1, add i.3 i.2 k.2, goto 2, block, end i.2")
}

// P11: 40 blocks, each with an `if` that is known only when the one two blocks ahead is settled.
func TestTidyFortyBlocks(t *testing.T) {
	list, want := "args x.0, block, set k.1 1, if k.1 1 2, block, if k.1 2 3", "args x.0, block, set k.1 1, goto 1, block, goto 2"
	for b := 2; b < 39; b++ {
		version, next := " p."+strconv.Itoa(b), strconv.Itoa(b+1)
		list += ", block, phi" + version + " " + strconv.Itoa(b-2) + ":x.0 " + strconv.Itoa(b-1) + ":k.1"
		list += ", out" + version + ", if" + version + " " + next + " " + strconv.Itoa(min(b+2, 39))
		want += ", block, out k.1, goto " + next
	}
	wantTidied(t, list+", block, phi p.39 37:x.0 38:k.1, end p.39", want+", block, end k.1")
}

// P11: 1000 lines, with much to tidy and with nothing, are tidied soon.
func TestTidyThousandLines(t *testing.T) {
	few := trials(0, 1, 2, 3, 500, 998, 999, 2000)
	many := "args x.0, block" + strings.Repeat(", out x.0", 997) + ", end x.0"
	if tidy := wantTidy(t, lined(many), few); tidy != lined(many) {
		t.Errorf("Tidy of 1000 lines with nothing to tidy = %q", tidy)
	}
	sums, phis, chain := "args x.0, block, copy a.1 x.0", "args x.0, block, goto 1, block", "args x.0, block, goto 1, block"
	for i := 1; i <= 995; i++ {
		here, next := strconv.Itoa(i), strconv.Itoa(i+1)
		sums += ", add a." + next + " a." + here + " x.0"
		phis += ", phi a." + here + " 0:x.0"
		if i < 992 {
			chain += ", phi a." + here + " 0:x.0 1:a." + next
		}
	}
	if tidy := wantTidy(t, lined(sums+", out x.0, end a.996"), few); tidy != lined(sums+", out x.0, end a.996") {
		t.Errorf("Tidy of a long sum = %q", tidy)
	}
	if tidy := wantTidy(t, lined(sums+", out x.0, end a.1"), few); tidy != lined("args x.0, block, copy a.1 x.0, out x.0, end a.1") {
		t.Errorf("Tidy of a long sum that nothing takes = %q", tidy)
	}
	if tidy := wantTidy(t, lined(phis+", end a.995"), few); tidy != lined("args x.0, block, goto 1, block, end x.0") {
		t.Errorf("Tidy of many phis = %q", tidy)
	}
	chain += ", phi a.992 0:x.0 1:x.0, out a.1, if x.0 1 2, block, end a.7"
	if tidy := wantTidy(t, lined(chain), few); tidy != lined("args x.0, block, goto 1, block, out x.0, if x.0 1 2, block, end x.0") {
		t.Errorf("Tidy of a chain of phis = %q", tidy)
	}
}

// P1, P11: what is refused, with nothing beside it.
func TestTidyRefuses(t *testing.T) {
	for _, c := range []struct {
		list  string
		errno api.Errno
		at    int
	}{
		{strings.Repeat(", ", 1000), api.ErrLong, 0},
		{"args, block" + strings.Repeat(", out x.0", 998) + ", end x.0", api.ErrLong, 0},
		{"", api.ErrForm, 0},
		{"args", api.ErrForm, 1},
		{exampleTwo, api.ErrForm, 0},
		{"args, block, out x.0, end x", api.ErrForm, 3},
		{"args, block, out x.0, phi x.1, end x.0", api.ErrForm, 3},
		{"args x.1, block, end x.1", api.ErrForm, 0},
		{"args, block, end x.0, block", api.ErrForm, 4},
		{"args" + strings.Repeat(", block, goto 0", 41), api.ErrForm, 81},
		{"args, block, goto 1", api.ErrName, 2},
		{"args, block, set c.1 1, if c.1 0 1", api.ErrName, 3},
		{"args, block, set x.0 1, end x.0", api.ErrTwice, 2},
		{"args, block, end x.0, block, set x.1 1, set x.1 1, end x.1", api.ErrTwice, 5},
		{"args, block, phi x.1, end x.1", api.ErrPhi, 2},
		{"args, block, goto 1, block, phi x.1 0:x.0, goto 1", api.ErrPhi, 4},
		{"args, block, end x.0, block, phi x.1 0:x.0, end x.1", api.ErrPhi, 4},
		{"args, block, end x.1", api.ErrUse, 2},
		// faults in what would be tidied away
		{"args, block, copy y.1 x.1, end x.0", api.ErrUse, 2},
		{"args, block, set c.1 0, if c.1 1 2, block, end x.9, block, end x.0", api.ErrUse, 5},
		{"args, block, goto 1, block, phi x.1 0:x.9, end x.0", api.ErrUse, 4},
	} {
		if s, e, at := ridge.Tidy(lined(c.list)); s != "" || e != c.errno || at != c.at {
			t.Errorf("Tidy(%.60q) = %q, %d, %d, want %d, %d", c.list, s, e, at, c.errno, c.at)
		}
	}
}

// P1, P11: of texts of all kinds Tidy tells the error that Verify tells, and makes a form just of those that have none.
func TestTidyOrRefuse(t *testing.T) {
	d := dice(23)
	seen := map[api.Errno]int{}
	for range 4000 {
		form := shaped(&d)
		switch d.roll(3) {
		case 0:
			form = spoiled(&d, form)
		case 1:
			form = misnumbered(&d, form)
		}
		errno, at := ridge.Verify(form)
		seen[errno]++
		if errno == api.OK {
			wantTidy(t, form, trials(d.roll(20), 60))
			continue
		}
		if s, e, a := ridge.Tidy(form); s != "" || e != errno || a != at {
			t.Fatalf("Tidy(%q) = %q, %d, %d, want %d, %d", form, s, e, a, errno, at)
		}
	}
	for _, errno := range []api.Errno{api.OK, api.ErrForm, api.ErrName, api.ErrTwice, api.ErrPhi, api.ErrUse} {
		if seen[errno] < 50 {
			t.Errorf("the dice are poor: %v", seen)
		}
	}
}

// P11, P12: what Convert makes of programs by dice is tidied, and still runs as the program does.
func TestTidyOfConvert(t *testing.T) {
	d := dice(29)
	taken, shorter := 0, 0
	for i := range 1500 {
		program := somewhat(&d)
		if i%8 == 0 {
			program = wide(&d)
		}
		form, e, _ := ridge.Convert(program)
		if e != api.OK {
			continue
		}
		tidy := wantTidy(t, form, trials(d.roll(20), 20+d.roll(60), 2000))
		taken++
		if len(tidy) < len(form) {
			shorter++
		}
		for _, args := range [][]int64{nil, {3, -2, 1}} {
			r, _, _ := ridge.Run(program, args, 1999)
			if s, _, _ := ridge.Exec(tidy, args, 2000); r.Ended && r != s {
				t.Fatalf("of %q with %v: Run %+v, Exec of the tidied form %+v", program, args, r, s)
			}
		}
	}
	if taken < 900 || shorter < 500 {
		t.Errorf("the dice are poor: %d programs, %d tidied", taken, shorter)
	}
}

// P11: forms by dice in which one thing to tidy hangs on another, of a few blocks and of 40.
func TestTidyTangles(t *testing.T) {
	d := dice(31)
	seen := map[string]int{}
	for i := range 5000 {
		form := tangled(&d, 1+d.roll(9), 4, 4)
		if i%200 == 0 {
			form = tangled(&d, 40, 14, 12)
		}
		if strings.Count(form, "\n") >= 1000 {
			continue
		}
		tidy := wantTidy(t, form, trials(d.roll(12), d.roll(60), 100))
		for _, word := range []string{"\nblock", "\nphi", "\nif", "\nset"} {
			seen[word+" gone"] += strings.Count(form, word) - strings.Count(tidy, word)
			seen[word+" left"] += strings.Count(tidy, word)
		}
		if r, _, _ := ridge.Exec(form, []int64{1, 2}, 100); r.Ended && r.Trace != "" {
			seen["ended"]++
		}
	}
	for _, what := range []string{"\nblock gone", "\nblock left", "\nphi gone", "\nphi left", "\nif gone", "\nif left", "\nset gone", "\nset left", "ended"} {
		if seen[what] < 500 {
			t.Errorf("the dice are poor: %s", fmt.Sprint(seen))
		}
	}
}
