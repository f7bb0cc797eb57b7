package ridge_test

import (
	"strconv"
	"strings"
	"testing"

	"ridge/api"
	"ridge/ridge"
)

// lined makes a text of lines that are given with a comma and a blank between each two.
func lined(list string) string { return strings.ReplaceAll(list, ", ", "\n") }

func wantCheck(t *testing.T, list string, errno api.Errno, at int) {
	t.Helper()
	if e, a := ridge.Check(lined(list)); e != errno || a != at {
		t.Errorf("Check(%.300q) = %d, %d, want %d, %d", list, e, a, errno, at)
	}
	if e, a := plainCheck(lined(list)); e != errno || a != at {
		t.Errorf("the document, of %.300q: %d, %d, not %d, %d", list, e, a, errno, at)
	}
}

const exampleTwo = "args n, block, set i 0, goto 1, block, less c i n, if c 2 3, block, out i, set k 1, add i i k, goto 1, block, end i"

// P6: programs without a fault.
func TestCheckTakes(t *testing.T) {
	for _, list := range []string{
		exampleTwo,
		"args, block, end x",
		"args a, block, end a",
		"args a b c d, block, end a",
		"args abc, block, end xyz",
		"args a aa aaa, block, end aa",
		"args set end if out, block, set set 1, copy end if, if if 0 0",
		"args phi, block, add phi sub mul, end mul",
		"args, block, goto 0",
		"args, block, if x 0 0",
		"args, block, end x, block, end y",
		"args, block, set x 0, copy y x, add x x y, sub x y x, mul z x y, less z x z, out z, end z",
	} {
		wantCheck(t, list, api.OK, 0)
	}
}

// P6: 120 lines and one more, with and without other faults in them.
func TestCheckLines(t *testing.T) {
	long := "args, block" + strings.Repeat(", out x", 117)
	wantCheck(t, long+", end x", api.OK, 0)
	wantCheck(t, long+", out x", api.ErrForm, 120)
	wantCheck(t, long+", out X", api.ErrForm, 119)
	wantCheck(t, long+", goto 1", api.ErrName, 119)
	wantCheck(t, long+", end x, ", api.ErrLong, 0)
	wantCheck(t, long+", out x, end x", api.ErrLong, 0)
	wantCheck(t, long+", end x, block, end x", api.ErrLong, 0)
	wantCheck(t, strings.Repeat(", ", 119), api.ErrForm, 0)
	wantCheck(t, strings.Repeat(", ", 120), api.ErrLong, 0)
	wantCheck(t, "x"+strings.Repeat(", goto 9", 120), api.ErrLong, 0)
	wantCheck(t, strings.Repeat(", ", 1000), api.ErrLong, 0)
}

// P6: lines that cannot stand where they stand.
func TestCheckOrder(t *testing.T) {
	for list, at := range map[string]int{
		"":                                    0,
		"block":                               0,
		"block, end x":                        0,
		"end x":                               0,
		"set x 1, args, block, end x":         0,
		", args, block, end x":                0,
		"args, args, block, end x":            1,
		"args a, args b, block, end x":        1,
		"args, set x 1, block, end x":         1,
		"args, end x":                         1,
		"args, goto 0, block, end x":          1,
		"args, , block, end x":                1,
		"args, phi x, block, end x":           1,
		"args, block, args, end x":            2,
		"args, block, block, end x":           2,
		"args, block, , end x":                2,
		"args, block, phi x, end x":           2,
		"args, block, phi x 0:x, end x":       2,
		"args, block, out x, block, end x":    3,
		"args, block, out x, args, end x":     3,
		"args, block, end x, end x":           3,
		"args, block, end x, goto 0":          3,
		"args, block, end x, out x":           3,
		"args, block, end x, ":                3,
		"args, block, end x, args":            3,
		"args, block, if x 0 0, set x 1":      3,
		"args, block, goto 0, copy x y":       3,
		"args, block, end x, , block, end x":  3,
		"args, block, end x, block, block":    4,
		"args, block, end x, block, x, end x": 4,
	} {
		wantCheck(t, list, api.ErrForm, at)
	}
}

// P6: programs that end ahead of their time.
func TestCheckEndsEarly(t *testing.T) {
	for list, at := range map[string]int{
		"args":                               1,
		"args a b c d":                       1,
		"args, block":                        2,
		"args, block, out x":                 3,
		"args, block, out x, set x 1":        4,
		"args, block, end x, block":          4,
		"args, block, goto 7, block, out x":  5,
		"args, block, goto 1, block, copy a": 4,
	} {
		wantCheck(t, list, api.ErrForm, at)
	}
}

// P6: 20 blocks and a 21st.
func TestCheckBlocks(t *testing.T) {
	many := "args" + strings.Repeat(", block, goto 0", 19)
	wantCheck(t, many+", block, goto 19", api.OK, 0)
	wantCheck(t, many+", block, goto 20", api.ErrName, 40)
	wantCheck(t, many+", block, goto 20, block, end x", api.ErrForm, 41)
	wantCheck(t, many+", block, end x, block", api.ErrForm, 41)
	wantCheck(t, many+", block, end x, out x", api.ErrForm, 41)
	wantCheck(t, many+", block", api.ErrForm, 40)
}

// P6: first lines that are no args.
func TestCheckArgs(t *testing.T) {
	for _, line := range []string{
		"Args", "arg", "argss", "args ", " args", "args a ", "args  a", "args a  b", "args\ta", "args a\tb", "args\r", "args a,b",
		"args a b c d e", "args a b c d ", "args a b c d e f g", "args a a", "args a b a", "args a b c a",
		"args abcd", "args A", "args aB", "args a1", "args 1", "args _", "args a.0", "args é", "args a\x00", "args \xff", "args -", "args :",
	} {
		wantCheck(t, line+", block, end x", api.ErrForm, 0)
	}
}

// P6: lines in a block that are none, each ahead of a line that would do.
func TestCheckWords(t *testing.T) {
	for _, line := range []string{
		"", " ", "x", "Block", "block ", " block", "block 0", "block\r", "blocks", "phi", "phi x", "nop", "div x y z", "call x",
		"set", "set x", "set 1", "set 1 x", "set x y", "set x 1 2", "set x 1 ", "set  x 1", "set x  1", " set x 1", "Set x 1", "set X 1", "set abcd 1", "set x.0 1", "set x.1 1", "set\tx\t1",
		"copy", "copy x", "copy x 1", "copy 1 x", "copy x y z", "copy x y ", "copy x  y", "copy x abcd", "copy abcd x", "copy x Y",
		"add x", "add x y", "add x y z w", "add x y 1", "add x 1 y", "add 1 x y", "add x y ", "add x  y", "add x y abcd", "add x abcd y",
		"sub x y", "sub x y z w", "sub x 1 1", "mul x y", "mul x y z w", "mul x y 2", "less x y", "less x y z w", "less 0 x y",
		"out", "out 1", "out x y", "out x ", "out  x", "out abcd", "out x.0",
		"goto", "goto x", "goto 0 0", "goto 0 ", "goto -1", "goto -0", "goto 00", "goto 01", "goto +0", "goto 1000000001", "goto 99999999999999999999", "goto 0x0",
		"if", "if x", "if x 0", "if x 0 0 0", "if 0 0 0", "if x y 0", "if x 0 y", "if x 0 -1", "if x -1 0", "if x 00 0", "if x 0 ", "if x  0", "if x 0 1000000001",
		"end", "end 0", "end x y", "end x ", "end  x", "end abcd", "end X", "end x\r", "end x.0", "end x\n", "end -1",
	} {
		wantCheck(t, "args, block, "+line+", end x", api.ErrForm, 2+strings.Count(line, "\n"))
		if line != "" {
			wantCheck(t, "args, block, out x, "+line, api.ErrForm, 3+strings.Count(line, "\n"))
		}
	}
}

// P6: numbers, at both ends of their range and as they are not written.
func TestCheckNumbers(t *testing.T) {
	for _, n := range []string{"0", "1", "-1", "9", "10", "-10", "100", "999999999", "-999999999", "1000000000", "-1000000000"} {
		wantCheck(t, "args, block, set x "+n+", end x", api.OK, 0)
	}
	for _, n := range []string{
		"", "-", "+", "-0", "+0", "00", "01", "-01", "+1", "--1", "-+1", "1-", "1 ", "1.0", "1e3", "0x1", "1_000", "1,000", "٣", "1\x00",
		"1000000001", "-1000000001", "2147483648", "4294967296", "4294967297", "9223372036854775807", "9223372036854775808", "-9223372036854775808", "-9223372036854775809",
		"18446744073709551616", "18446744073709551617", "99999999999999999999", "0000000001", strings.Repeat("9", 5000),
	} {
		wantCheck(t, "args, block, set x "+n+", end x", api.ErrForm, 2)
	}
}

// P6: blocks that there are not.
func TestCheckBlocksThatAreNot(t *testing.T) {
	wantCheck(t, "args, block, goto 1", api.ErrName, 2)
	wantCheck(t, "args, block, goto 1000000000", api.ErrName, 2)
	wantCheck(t, "args, block, if x 0 1", api.ErrName, 2)
	wantCheck(t, "args, block, if x 1 0", api.ErrName, 2)
	wantCheck(t, "args, block, if x 0 1, block, if x 1 0", api.OK, 0)
	wantCheck(t, "args, block, set x 7, if x 1 0, block, out x, goto 2", api.ErrName, 6)
	wantCheck(t, "args, block, goto 2, block, goto 2", api.ErrName, 2)
	wantCheck(t, "args, block, goto 0, block, goto 2", api.ErrName, 4)
}

// P6: 8 names and a ninth, wherever they stand.
func TestCheckNames(t *testing.T) {
	eight := "args a b c d, block, add e f g, "
	wantCheck(t, eight+"end h", api.OK, 0)
	wantCheck(t, eight+"out h, end i", api.ErrMany, 4)
	wantCheck(t, eight+"out h, out i, end h", api.ErrMany, 4)
	wantCheck(t, eight+"copy h i, end j", api.ErrMany, 3)
	wantCheck(t, eight+"set h 1, set i 1, end a", api.ErrMany, 4)
	wantCheck(t, eight+"if h 0 0, block, if i 0 0", api.ErrMany, 5)
	wantCheck(t, "args, block, add a b c, sub d e f, mul g h i, end a", api.ErrMany, 4)
	wantCheck(t, "args, block, add a b c, sub d e f, mul g h a, end i", api.ErrMany, 5)
	wantCheck(t, "args, block, add a b c, sub d e f, less i h g, end i", api.ErrMany, 4)
	wantCheck(t, "args, block, add a b c, add d e f, add g h h, goto 1, block, out a, end h", api.OK, 0)
	wantCheck(t, "args, block, add a aa aaa, add b bb bbb, copy c cc, end ccc", api.ErrMany, 5)
	wantCheck(t, "args a b c d, block, set set 1, set if 1, set end 1, set out 1, end add", api.ErrMany, 6)
}

// P1, P6: of several faults the one that is named first is told, wherever it stands.
func TestCheckOrderOfErrors(t *testing.T) {
	crowd := "args a b c d, block, add e f g, copy h i, "
	wantCheck(t, crowd+"end a", api.ErrMany, 3)
	wantCheck(t, crowd+"goto 1", api.ErrName, 4)
	wantCheck(t, crowd+"goto 1, block, end a b", api.ErrForm, 6)
	wantCheck(t, crowd+"goto 1, block", api.ErrForm, 6)
	wantCheck(t, crowd+"goto 1"+strings.Repeat(", block, end", 58), api.ErrLong, 0)
	wantCheck(t, "args, block, goto 3, block, goto -1", api.ErrForm, 4)
	wantCheck(t, "args, block, goto -1, block, goto 3, ", api.ErrForm, 2)
}

// P1, P2, P6: texts of all kinds, and large ones, are told soon.
func TestCheckLargeTexts(t *testing.T) {
	large := 10000000
	for _, c := range []struct {
		text  string
		errno api.Errno
		at    int
	}{
		{strings.Repeat("\n", large), api.ErrLong, 0},
		{strings.Repeat(" ", large), api.ErrForm, 0},
		{strings.Repeat("a", large), api.ErrForm, 0},
		{"args" + strings.Repeat(" a", large), api.ErrForm, 0},
		{"args\nblock\nset x " + strings.Repeat("1", large), api.ErrForm, 2},
		{"args\nblock\nend" + strings.Repeat(" x", large), api.ErrForm, 2},
		{"args\nblock\nend " + strings.Repeat("x", large), api.ErrForm, 2},
	} {
		if e, at := ridge.Check(c.text); e != c.errno || at != c.at {
			t.Errorf("Check(%.20q..) = %d, %d, want %d, %d", c.text, e, at, c.errno, c.at)
		}
	}
}

// somewhat makes a program by dice, most often one without a fault.
func somewhat(d *dice) string {
	names := []string{"a", "b", "c", "d", "e", "f", "g", "h", "zz", "abc"}[:4+d.roll(7)]
	name := func() string { return " " + names[d.roll(len(names))] }
	count := 1 + d.roll(5)
	target := func() string { return " " + strconv.Itoa(d.roll(count+d.roll(8)/7)) }
	list := []string{"args" + strings.Join(append([]string{""}, names[:d.roll(5)]...), " ")}
	for range count {
		list = append(list, "block")
		for range d.roll(6) {
			switch d.roll(5) {
			case 0:
				list = append(list, "set"+name()+" "+strconv.Itoa(d.roll(2000000001)-1000000000))
			case 1:
				list = append(list, "copy"+name()+name())
			case 2:
				list = append(list, "out"+name())
			default:
				list = append(list, []string{"add", "sub", "mul", "less"}[d.roll(4)]+name()+name()+name())
			}
		}
		switch d.roll(5) {
		case 0:
			list = append(list, "end"+name())
		case 1:
			list = append(list, "goto"+target())
		default:
			list = append(list, "if"+name()+target()+target())
		}
	}
	return strings.Join(list, "\n")
}

// spoiled changes a few bytes or lines of a text.
func spoiled(d *dice, text string) string {
	for range d.roll(3) {
		list := strings.Split(text, "\n")
		i, j := d.roll(len(list)), d.roll(len(list))
		switch d.roll(4) {
		case 0:
			list[i] = list[j]
		case 1:
			list[i], list[j] = list[j], list[i]
		case 2:
			list = append(list[:i:i], list[i+1:]...)
		default:
			k := d.roll(len(list[i]) + 1)
			piece := []string{"", " ", "0", "-", "9", "a", ".", "\n", "\t"}[d.roll(9)]
			list[i] = list[i][:k] + piece + list[i][min(len(list[i]), k+d.roll(2)):]
		}
		text = strings.Join(list, "\n")
	}
	return text
}

// P6, P7: programs by dice, whole and spoiled, are checked and run as the document says.
func TestProgramsByDice(t *testing.T) {
	d := dice(3)
	seen := map[api.Errno]int{}
	ended := 0
	for range 20000 {
		program := spoiled(&d, somewhat(&d))
		errno, at := plainCheck(program)
		seen[errno]++
		if e, a := ridge.Check(program); e != errno || a != at {
			t.Fatalf("Check(%q) = %d, %d, want %d, %d", program, e, a, errno, at)
		}
		var args []int64
		for range d.roll(6) {
			args = append(args, int64(d.roll(7)-3)<<d.roll(63))
		}
		fuel := d.roll(60)
		var want api.Result
		if errno == api.OK {
			want = plainRun(program, args, fuel)
		}
		r, e, a := ridge.Run(program, args, fuel)
		if r != want || e != errno || a != at {
			t.Fatalf("Run(%q, %v, %d) = %+v, %d, %d, want %+v, %d, %d", program, args, fuel, r, e, a, want, errno, at)
		}
		if r.Ended {
			ended++
		}
	}
	if seen[api.OK] < 2000 || seen[api.ErrForm] < 2000 || seen[api.ErrName] < 200 || seen[api.ErrMany] < 200 || ended < 200 {
		t.Errorf("the dice are poor: %v, %d ended", seen, ended)
	}
}
