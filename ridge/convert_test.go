package ridge_test

import (
	"strconv"
	"strings"
	"testing"

	"ridge/api"
	"ridge/ridge"
)

func wantConvert(t *testing.T, list, want string) {
	t.Helper()
	if s, e, at := ridge.Convert(lined(list)); s != lined(want) || e != api.OK || at != 0 {
		t.Errorf("Convert(%q) =\n%s\n%d, %d, want\n%s", list, s, e, at, lined(want))
	}
	if s := plainConvert(lined(list)); s != lined(want) {
		t.Errorf("the document, of %q:\n%s\nnot\n%s", list, s, lined(want))
	}
}

// P10: example 3 of the document.
func TestConvertExampleThree(t *testing.T) {
	wantConvert(t, exampleTwo, exampleThree)
}

// P10: lines, args and terminators of programs whose ways do not meet.
func TestConvertLines(t *testing.T) {
	wantConvert(t, "args, block, end x", "args, block, goto 1, block, end x.0")
	wantConvert(t, "args d c bb aaa, block, end bb", "args d.0 c.0 bb.0 aaa.0, block, goto 1, block, end bb.0")
	wantConvert(t, "args x, block, add x x x, add x x x, end x", "args x.0, block, goto 1, block, add x.1 x.0 x.0, add x.2 x.1 x.1, end x.2")
	wantConvert(t, "args, block, set x -1000000000, copy y x, sub x y x, mul z x y, less z z w, out z, set y 0, end y",
		"args, block, goto 1, block, set x.1 -1000000000, copy y.1 x.1, sub x.2 y.1 x.1, mul z.1 x.2 y.1, less z.2 z.1 w.0, out z.2, set y.2 0, end y.2")
	wantConvert(t, "args a, block, if a 2 1, block, end a, block, end b", "args a.0, block, goto 1, block, if a.0 3 2, block, end a.0, block, end b.0")
	wantConvert(t, "args a, block, set a 5, if a 1 1, block, set b 1, end a", "args a.0, block, goto 1, block, set a.1 5, if a.1 2 2, block, set b.1 1, end a.1")
	wantConvert(t, "args set, block, set set 7, copy if set, goto 1, block, out phi, end if", "args set.0, block, goto 1, block, set set.1 7, copy if.1 set.1, goto 2, block, out phi.0, end if.1")
}

// P10: blocks that are not reached lead to themselves, set nothing, and are ahead of none.
func TestConvertBlocksAway(t *testing.T) {
	wantConvert(t, "args, block, end x, block, set x 1, goto 0", "args, block, goto 1, block, end x.0, block, goto 2")
	wantConvert(t, "args, block, end x, block, end x, block, if x 0 1", "args, block, goto 1, block, end x.0, block, goto 2, block, goto 3")
	wantConvert(t, "args, block, goto 2, block, set x 1, goto 2, block, end x", "args, block, goto 1, block, goto 3, block, goto 2, block, end x.0")
	wantConvert(t, "args a, block, set x 1, goto 2, block, set x 2, goto 2, block, set x 3, if a 2 3, block, end x",
		"args a.0, block, goto 1, block, set x.1 1, goto 3, block, goto 2, block, phi x.2 1:x.1 3:x.3, set x.3 3, if a.0 3 4, block, end x.3")
	wantConvert(t, "args a, block, end a, block, set x 1, goto 2, block, set x 2, goto 1", "args a.0, block, goto 1, block, end a.0, block, goto 2, block, goto 3")
}

// P10: loops, those of one block among them, also of block 0.
func TestConvertLoops(t *testing.T) {
	wantConvert(t, "args, block, goto 0", "args, block, goto 1, block, goto 1")
	wantConvert(t, "args n, block, add n n n, goto 0", "args n.0, block, goto 1, block, phi n.1 0:n.0 1:n.2, add n.2 n.1 n.1, goto 1")
	wantConvert(t, "args n, block, if n 0 0", "args n.0, block, goto 1, block, if n.0 1 1")
	wantConvert(t, "args n, block, sub n n k, if n 0 1, block, end n", "args n.0, block, goto 1, block, phi n.1 0:n.0 1:n.2, sub n.2 n.1 k.0, if n.2 1 2, block, end n.2")
	wantConvert(t, "args n, block, goto 1, block, out n, if n 1 2, block, set n 1, goto 0",
		"args n.0, block, goto 1, block, phi n.1 0:n.0 3:n.2, goto 2, block, out n.1, if n.1 2 3, block, set n.2 1, goto 1")
}

// P10: phis stand where ways meet, also where nothing takes them, and where phis alone set a variable.
func TestConvertPhis(t *testing.T) {
	wantConvert(t, "args x, block, if x 1 2, block, set y 1, goto 3, block, out y, goto 3, block, end y",
		"args x.0, block, goto 1, block, if x.0 2 3, block, set y.1 1, goto 4, block, out y.0, goto 4, block, phi y.2 2:y.1 3:y.0, end y.2")
	wantConvert(t, "args x, block, if x 1 2, block, set y 1, goto 2, block, end x",
		"args x.0, block, goto 1, block, if x.0 2 3, block, set y.1 1, goto 3, block, phi y.2 1:y.0 2:y.1, end x.0")
	wantConvert(t, "args x, block, if x 1 4, block, if x 2 3, block, set y 1, goto 3, block, goto 5, block, goto 5, block, end y",
		"args x.0, block, goto 1, block, if x.0 2 5, block, if x.0 3 4, block, set y.1 1, goto 4, block, phi y.2 2:y.0 3:y.1, goto 6, block, goto 6, block, phi y.3 4:y.2 5:y.0, end y.3")
	wantConvert(t, "args x, block, set y 1, if x 1 2, block, goto 3, block, goto 3, block, end y",
		"args x.0, block, goto 1, block, set y.1 1, if x.0 2 3, block, goto 4, block, goto 4, block, end y.1")
	wantConvert(t, "args a, block, if a 1 1, block, set b 1, if a 2 2, block, end b", "args a.0, block, goto 1, block, if a.0 2 2, block, set b.1 1, if a.0 3 3, block, end b.1")
}

// P10: the phis of a block by their names as texts, not as the names come.
func TestConvertNames(t *testing.T) {
	wantConvert(t, "args a, block, if a 1 2, block, set b 1, set ab 2, goto 2, block, end a",
		"args a.0, block, goto 1, block, if a.0 2 3, block, set b.1 1, set ab.1 2, goto 3, block, phi ab.2 1:ab.0 2:ab.1, phi b.2 1:b.0 2:b.1, end a.0")
	wantConvert(t, "args z a, block, if a 1 2, block, set z 1, set aaa 2, set aa 3, set zz 4, set a 5, set b 6, goto 2, block, end zz",
		"args z.0 a.0, block, goto 1, block, if a.0 2 3, block, set z.1 1, set aaa.1 2, set aa.1 3, set zz.1 4, set a.1 5, set b.1 6, goto 3, block, "+
			"phi a.2 1:a.0 2:a.1, phi aa.2 1:aa.0 2:aa.1, phi aaa.2 1:aaa.0 2:aaa.1, phi b.2 1:b.0 2:b.1, phi z.2 1:z.0 2:z.1, phi zz.2 1:zz.0 2:zz.1, end zz.2")
}

// P10: versions are numbered block by block as the last blocks over them have it, by rising numbers, not as the text or the ways go.
func TestConvertNumbers(t *testing.T) {
	wantConvert(t, "args a, block, if a 2 1, block, set b 1, goto 3, block, set b 2, goto 3, block, set b 3, if a 1 2",
		"args a.0, block, goto 1, block, if a.0 3 2, block, phi b.1 1:b.0 4:b.6, set b.2 1, goto 4, block, phi b.3 1:b.0 4:b.6, set b.4 2, goto 4, block, phi b.5 2:b.2 3:b.4, set b.6 3, if a.0 2 3")
	wantConvert(t, "args a, block, set x 0, goto 3, block, set x 1, end x, block, set x 2, goto 1, block, set x 3, goto 2",
		"args a.0, block, goto 1, block, set x.1 0, goto 4, block, set x.4 1, end x.4, block, set x.3 2, goto 2, block, set x.2 3, goto 3")
	wantConvert(t, "args a, block, if a 1 2, block, set x 1, goto 4, block, set x 2, end x, block, set x 3, end x, block, set x 4, if a 3 3",
		"args a.0, block, goto 1, block, if a.0 2 3, block, set x.1 1, goto 5, block, set x.4 2, end x.4, block, set x.3 3, end x.3, block, set x.2 4, if a.0 4 4")
}

// P10: more than nine blocks are ahead by their numbers, and versions have more than one digit.
func TestConvertManyBlocks(t *testing.T) {
	list, want, ahead := "args a", "args a.0, block, goto 1", ""
	for b := range 18 {
		from, to := strconv.Itoa(b+1), strconv.Itoa(b+2)
		list += ", block, set x 1, if a " + from + " 19"
		want += ", block, set x." + from + " 1, if a.0 " + to + " 20"
		ahead += " " + from + ":x." + from
	}
	wantConvert(t, list+", block, goto 19, block, end x", want+", block, goto 20, block, phi x.19"+ahead+" 19:x.18, end x.19")
}

// P1, P10: what is refused, with nothing beside it.
func TestConvertRefuses(t *testing.T) {
	for _, c := range []struct {
		list  string
		errno api.Errno
		at    int
	}{
		{strings.Repeat(", ", 120), api.ErrLong, 0},
		{"", api.ErrForm, 0},
		{"args", api.ErrForm, 1},
		{exampleThree, api.ErrForm, 0},
		{"args, block, out x, end 1", api.ErrForm, 3},
		{"args, block, goto 1, block, phi x 0:x, end x", api.ErrForm, 4},
		{"args" + strings.Repeat(", block, goto 0", 21), api.ErrForm, 41},
		{"args a, block, out a, end a, block, goto 2", api.ErrName, 5},
		{"args a b c d, block, add e f g, copy h i, end a", api.ErrMany, 3},
	} {
		if s, e, at := ridge.Convert(lined(c.list)); s != "" || e != c.errno || at != c.at {
			t.Errorf("Convert(%.60q) = %q, %d, %d, want %d, %d", c.list, s, e, at, c.errno, c.at)
		}
	}
}

// wantFollows holds Convert against the document, and what follows against Verify, Exec and Run.
func wantFollows(t *testing.T, d *dice, program string) {
	t.Helper()
	form, e, at := ridge.Convert(program)
	if want := plainConvert(program); form != want || e != api.OK || at != 0 {
		t.Fatalf("Convert(%q) =\n%s\n%d, %d, want\n%s", program, form, e, at, want)
	}
	if again, _, _ := ridge.Convert(program); again != form {
		t.Fatalf("Convert(%q) is now one thing, now another", program)
	}
	if e, at := ridge.Verify(form); e != api.OK || at != 0 {
		t.Fatalf("Verify(%q) = %d, %d", form, e, at)
	}
	for range 6 {
		var args []int64
		for range d.roll(6) {
			args = append(args, int64(d.roll(7)-3)<<d.roll(63))
		}
		fuel := d.roll(90)
		if d.roll(10) == 0 {
			fuel = 1999
		}
		r, e, _ := ridge.Run(program, args, fuel)
		if s, f, _ := ridge.Exec(form, args, fuel+1); s != r || e != api.OK || f != api.OK {
			t.Fatalf("of %q with %v and %d: Run %+v, Exec %+v", program, args, fuel, r, s)
		}
	}
}

// wide makes a program of many blocks and lines by dice, without a fault, with many ways that meet.
func wide(d *dice) string {
	names := []string{"n", "b", "ab", "aa", "z", "zz", "c", "ba"}
	name := func() string { return " " + names[d.roll(len(names))] }
	count := 1 + d.roll(20)
	list := []string{"args n b ab aa"}
	for b := range count {
		list = append(list, "block")
		for range d.roll(1 + min(5, (119-len(list)-2*(count-b))/max(1, count-b))) {
			list = append(list, []string{"set" + name() + " 1", "copy" + name() + name(), "sub" + name() + name() + name(), "less" + name() + name() + name(), "out" + name()}[d.roll(5)])
		}
		near := strconv.Itoa(min(count-1, b+1))
		list = append(list, []string{"end" + name(), "goto " + near, "if" + name() + " " + near + " " + strconv.Itoa(d.roll(count)), "if" + name() + " " + strconv.Itoa(d.roll(count)) + " " + near, "goto " + near, "if" + name() + " " + near + " " + strconv.Itoa(d.roll(count))}[d.roll(6)])
	}
	return strings.Join(list, "\n")
}

// P10, P12: of programs by dice, small ones and wide ones, the form is the one that the document says, Verify takes it, and it runs as the program does.
func TestFollowsByDice(t *testing.T) {
	d := dice(5)
	taken, phis, long := 0, 0, 0
	for i := range 4000 {
		program := somewhat(&d)
		if i%8 == 0 {
			program = wide(&d)
		}
		if e, _ := plainCheck(program); e != api.OK {
			continue
		}
		wantFollows(t, &d, program)
		taken++
		form, _, _ := ridge.Convert(program)
		if phis += strings.Count(form, "\nphi"); strings.Count(form, "\n") > 120 {
			long++
		}
	}
	if taken < 2500 || phis < 5000 || long < 20 {
		t.Errorf("the dice are poor: %d programs, %d phis, %d long", taken, phis, long)
	}
}

// P12: programs in which ways meet again and again, with little fuel, much, and as much as may be.
func TestFollows(t *testing.T) {
	for _, list := range []string{
		exampleTwo,
		"args a b, block, less c a b, if c 1 2, block, copy m a, goto 3, block, copy m b, goto 3, block, sub a a m, sub b b m, out m, if a 0 4, block, if b 0 5, block, end m",
		"args n, block, set k 1, goto 1, block, copy c a, copy a b, copy b c, add a a k, sub n n k, out a, if n 1 2, block, end b",
		"args n, block, sub n n k, set k 1, out n, if n 0 1, block, end k",
		"args n, block, out n, goto 0",
	} {
		form, e, at := ridge.Convert(lined(list))
		if f, bt := ridge.Verify(form); e != api.OK || at != 0 || f != api.OK || bt != 0 {
			t.Fatalf("Convert(%q) = %q, %d, %d; Verify of it %d, %d", list, form, e, at, f, bt)
		}
		for _, args := range [][]int64{nil, {1}, {2, 1}, {3, 5}, {6, 4}, {-1, 1}} {
			for fuel := range 2000 {
				if fuel > 100 && fuel < 1990 && fuel%97 != 0 {
					continue
				}
				r, _, _ := ridge.Run(lined(list), args, fuel)
				s, _, _ := ridge.Exec(form, args, fuel+1)
				if r != s {
					t.Fatalf("of %q with %v and %d: Run %+v, Exec %+v", list, args, fuel, r, s)
				}
				if want := plainRun(lined(list), args, fuel); r != want {
					t.Fatalf("of %q with %v and %d: Run %+v, want %+v", list, args, fuel, r, want)
				}
			}
		}
	}
}
