package ridge_test

import (
	"slices"
	"strconv"
	"strings"
	"testing"

	"ridge/api"
	"ridge/ridge"
)

func wantVerify(t *testing.T, list string, errno api.Errno, at int) {
	t.Helper()
	if e, a := ridge.Verify(lined(list)); e != errno || a != at {
		t.Errorf("Verify(%.300q) = %d, %d, want %d, %d", list, e, a, errno, at)
	}
	if e, a := plainVerify(lined(list)); e != errno || a != at {
		t.Errorf("the document, of %.300q: %d, %d, not %d, %d", list, e, a, errno, at)
	}
}

const exampleThree = "args n.0, block, goto 1, block, set i.1 0, goto 2, block, phi c.1 1:c.0 3:c.2, phi i.2 1:i.1 3:i.3, phi k.1 1:k.0 3:k.2, less c.2 i.2 n.0, if c.2 3 4, block, out i.2, set k.2 1, add i.3 i.2 k.2, goto 2, block, end i.2"

// P8: forms without a fault.
func TestVerifyTakes(t *testing.T) {
	for _, list := range []string{
		exampleThree,
		"args, block, end x.0",
		"args a.0, block, end a.0",
		"args d.0 c.0 bb.0 aaa.0, block, end x.0",
		"args set.0 phi.0 if.0, block, copy set.1 phi.0, copy phi.1 if.0, if if.0 0 0",
		"args, block, set x.999 1, copy x.1 x.999, end x.1",
		"args, block, set x.7 1, set x.3 1, set x.5 -1, end x.3",
		"args, block, set x.1 1, set xx.1 1, set xxx.1 1, set y.1 1, end x.1",
		"args, block, set x.1 1, set x.2 2, set x.11 11, add y.1 x.1 x.11, end x.2",
		"args x.0, block, add y.1 x.0 z.0, sub y.2 y.1 x.0, mul y.3 y.2 y.2, less y.4 y.3 y.1, out y.4, if y.4 1 0, block, end y.2",
		"args, block, goto 0",
		"args, block, goto 1, block, goto 1",
		"args, block, goto 1, block, phi x.1 0:x.0 1:x.1, goto 1",
		"args, block, goto 1, block, phi x.1 0:x.0, phi y.1 0:z.0, end x.1",
	} {
		wantVerify(t, list, api.OK, 0)
	}
}

// P8: there may be any number of names, and no ninth one is too many.
func TestVerifyManyNames(t *testing.T) {
	list := "args a.0 b.0 c.0 d.0, block"
	for i := range 900 {
		list += ", set " + string(rune('a'+i/676)) + string(rune('a'+i/26%26)) + string(rune('a'+i%26)) + ".1 1"
	}
	wantVerify(t, list+", end aaa.1", api.OK, 0)
	wantVerify(t, list+", end bib.1", api.OK, 0)
	wantVerify(t, list+", end zzz.1", api.ErrUse, 902)
}

// P8: 1000 lines and one more, with and without other faults in them.
func TestVerifyLines(t *testing.T) {
	long := "args, block" + strings.Repeat(", out x.0", 997)
	wantVerify(t, long+", end x.0", api.OK, 0)
	wantVerify(t, long+", out x.0", api.ErrForm, 1000)
	wantVerify(t, long+", out x", api.ErrForm, 999)
	wantVerify(t, long+", goto 1", api.ErrName, 999)
	wantVerify(t, long+", end x.1", api.ErrUse, 999)
	wantVerify(t, long+", end x.0, ", api.ErrLong, 0)
	wantVerify(t, long+", out x.0, end x.0", api.ErrLong, 0)
	wantVerify(t, strings.Repeat(", ", 999), api.ErrForm, 0)
	wantVerify(t, strings.Repeat(", ", 1000), api.ErrLong, 0)
	wantVerify(t, "args, block"+strings.Repeat(", out x.0", 118)+", end x.0", api.OK, 0)
	phis := "args, block, goto 1, block"
	for i := range 995 {
		phis += ", phi x." + strconv.Itoa(i+1) + " 0:y.0"
	}
	wantVerify(t, phis+", end x.995", api.OK, 0)
	wantVerify(t, phis+", end x.996", api.ErrUse, 999)
	wantVerify(t, phis+", out x.1, end x.995", api.ErrLong, 0)
}

// P8: 40 blocks and a 41st.
func TestVerifyBlocks(t *testing.T) {
	many := "args" + strings.Repeat(", block, goto 0", 39)
	wantVerify(t, "args"+strings.Repeat(", block, goto 0", 21), api.OK, 0)
	wantVerify(t, many+", block, goto 39", api.OK, 0)
	wantVerify(t, many+", block, goto 40", api.ErrName, 80)
	wantVerify(t, many+", block, goto 40, block, end x.0", api.ErrForm, 81)
	wantVerify(t, many+", block, end x.0, block", api.ErrForm, 81)
	wantVerify(t, many+", block", api.ErrForm, 80)
	chain, ahead := "args", ""
	for i := range 38 {
		chain += ", block, if x.0 " + strconv.Itoa(i+1) + " 39"
		ahead += " " + strconv.Itoa(i) + ":x.0"
	}
	wantVerify(t, chain+", block, set y.1 1, goto 39, block, phi x.1"+ahead+" 38:y.1, end x.1", api.OK, 0)
	wantVerify(t, chain+", block, set y.1 1, goto 39, block, phi x.1"+ahead+" 38:y.1, end y.1", api.ErrUse, 82)
	wantVerify(t, chain+", block, set y.1 1, end y.1, block, phi x.1"+ahead+" 38:y.1, end x.1", api.ErrPhi, 81)
}

// P8: versions, at both ends of their range and as they are not written, wherever one can stand.
func TestVerifyVersions(t *testing.T) {
	for _, number := range []string{"1", "9", "10", "99", "100", "998", "999"} {
		v := "xyz." + number
		wantVerify(t, "args, block, set "+v+" 1, out "+v+", goto 1, block, phi a.1 0:"+v+", add b.1 "+v+" "+v+", end "+v, api.OK, 0)
	}
	for _, v := range []string{
		"", "x", ".", "x.", ".0", ".1", "x.1000", "x.1001", "x.9999", "x.00", "x.01", "x.001", "x.-0", "x.-1", "x.+1", "x.1.", "x.1.1", "x..1", "x.x", "x.1x", "x.x1", "x.0x1", "x,1", "x:1", "x.1:", "x1",
		"1", "0", "0.1", "1.x", "X.1", "xX.1", "abcd.1", "x.1\t", "x\t.1", "x.\xff", "é.1", "x.٣", "x.1000000000", "x.4294967297", "x.18446744073709551617", "V", "x.V",
	} {
		wantVerify(t, "args "+v+", block, end x.0", api.ErrForm, 0)
		wantVerify(t, "args, block, set "+v+" 1, end x.0", api.ErrForm, 2)
		wantVerify(t, "args, block, copy y.1 "+v+", end x.0", api.ErrForm, 2)
		wantVerify(t, "args, block, add y.1 x.0 "+v+", end x.0", api.ErrForm, 2)
		wantVerify(t, "args, block, out x.0, if "+v+" 0 0", api.ErrForm, 3)
		wantVerify(t, "args, block, end "+v, api.ErrForm, 2)
		wantVerify(t, "args, block, goto 1, block, phi "+v+" 0:x.0, end x.0", api.ErrForm, 4)
		wantVerify(t, "args, block, goto 1, block, phi y.1 0:"+v+", end x.0", api.ErrForm, 4)
	}
}

// P8: args that are none, as those with a version that is not 0.
func TestVerifyArgs(t *testing.T) {
	for _, line := range []string{
		"args x.1", "args x.999", "args x.0 y.1", "args x.0 x.1", "args x.0 x.0", "args a.0 b.0 c.0 d.0 e.0", "args a.0 b.0 c.0 a.0", "args ", "args x.0 ", "args  x.0", "arg x.0", "Args", "phi x.1", "block",
	} {
		wantVerify(t, line+", block, end x.0", api.ErrForm, 0)
	}
}

// P8: lines that cannot stand where they stand, and forms that end ahead of their time.
func TestVerifyOrder(t *testing.T) {
	for list, at := range map[string]int{
		"":                                     0,
		"block, end x.0":                       0,
		"args":                                 1,
		"args, args, block":                    1,
		"args, end x.0":                        1,
		"args, phi x.1":                        1,
		"args, phi x.1, block":                 1,
		"args, set x.1 1, block":               1,
		"args, block":                          2,
		"args, block, args":                    2,
		"args, block, block":                   2,
		"args, block, ":                        2,
		"args, block, end x":                   2,
		"args, block, out x.0":                 3,
		"args, block, phi x.1":                 3,
		"args, block, end x.0, ":               3,
		"args, block, goto 0, end":             3,
		"args, block, end x.0, phi x.1 0:x.0":  3,
		"args, block, end x.0, block":          4,
		"args, block, end x.0, block, phi x.1": 5,
		"args, block, goto 1, block, set x.1 1, phi y.1 0:x.0, end x.1":                  5,
		"args, block, goto 1, block, phi x.1 0:x.0, out x.1, phi y.1 0:x.0, end x.1":     6,
		"args, block, goto 1, block, phi x.1 0:x.0, end x.1, phi y.1 0:x.0":              6,
		"args, block, goto 1, block, phi x.1 0:x.0, block, end x.1":                      5,
		"args, block, goto 1, block, phi x.1 0:x.0, args, end x.1":                       5,
		"args, block, goto 1, block, phi x.1 0:x.0, , end x.1":                           5,
		"args, block, goto 1, block, end x.0, block, phi x.1, out x.0, end y.0, phi x.1": 9,
	} {
		wantVerify(t, list, api.ErrForm, at)
	}
}

// P8: lines that are none, each behind a phi and ahead of a line that would do.
func TestVerifyWords(t *testing.T) {
	for _, line := range []string{
		"", " ", "x.1", "Phi x.2 0:x.0", "phis x.2 0:x.0", "phi", "phi ", "phi x.2 ", "phi  x.2", " phi x.2", "phi x.2  0:x.0", "phi x.2 0:x.0 ", "phi\tx.2", "phi 0:x.0", "phi 0:x.0 x.2", "phi x 0:x.0",
		"phi x.2 0", "phi x.2 x.0", "phi x.2 :", "phi x.2 0:", "phi x.2 :x.0", "phi x.2 0::x.0", "phi x.2 0:x.0:x.0", "phi x.2 0:0:x.0", "phi x.2 x.0:0", "phi x.2 0.x:0", "phi x.2 0:x.0,", "phi x.2 0: x.0", "phi x.2 0 :x.0",
		"phi x.2 -1:x.0", "phi x.2 -0:x.0", "phi x.2 +0:x.0", "phi x.2 00:x.0", "phi x.2 01:x.0", "phi x.2 a:x.0", "phi x.2 0x0:x.0", "phi x.2 1000000001:x.0", "phi x.2 18446744073709551616:x.0", "phi x.2 0:x.0 1", "phi x.2 0:x.0 y.1",
		"set x.2", "set x.2 y.0", "set x.2 01", "set x.2 -0", "set x.2 1000000001", "set x.2 -1000000001", "set x.2 1 1", "set x 1", "set 1 x.2",
		"copy x.2", "copy x.2 y", "copy x.2 1", "copy x y.0", "copy x.2 y.0 z.0", "add x.2 y.0", "add x.2 y.0 z", "add x.2 y.0 1", "add x.2 y.0 z.0 w.0", "sub x.2 y.0", "mul x.2 y.0", "less x.2 y.0", "div x.2 y.0 z.0",
		"out", "out x", "out 1", "out x.1 x.1", "goto", "goto x.1", "goto -1", "goto 00", "goto 0 0", "if", "if x 0 0", "if x.1 0", "if x.1 0 0 0", "if x.1 x.1 0", "if x.1 0 -1", "end", "end x", "end 0", "end x.1 x.1", "end x.1 ",
	} {
		wantVerify(t, "args, block, goto 1, block, phi x.1 0:x.0, "+line+", end x.1", api.ErrForm, 5)
		wantVerify(t, "args, block, goto 1, block, phi x.1 0:x.0, out x.1, "+line+", end x.1", api.ErrForm, 6)
	}
	for _, n := range []string{"0", "-1", "1000000000", "-1000000000"} {
		wantVerify(t, "args, block, set x.1 "+n+", end x.1", api.OK, 0)
	}
}

// P8: blocks that a goto or an if names, and that there are not. A phi may name such a block, and has then not just the blocks ahead.
func TestVerifyBlocksThatAreNot(t *testing.T) {
	wantVerify(t, "args, block, goto 1", api.ErrName, 2)
	wantVerify(t, "args, block, goto 1000000000", api.ErrName, 2)
	wantVerify(t, "args, block, if x.0 0 1", api.ErrName, 2)
	wantVerify(t, "args, block, if x.0 1 0", api.ErrName, 2)
	wantVerify(t, "args, block, goto 1, block, phi x.1 0:x.0, goto 2", api.ErrName, 5)
	wantVerify(t, "args, block, goto 1, block, phi x.1 2:x.0, end x.1", api.ErrPhi, 4)
	wantVerify(t, "args, block, goto 1, block, phi x.1 0:x.0 1000000000:x.0, end x.1", api.ErrPhi, 4)
}

// P8: versions that are set twice, and versions 0 that are set, in blocks that are reached or not.
func TestVerifyTwice(t *testing.T) {
	for list, at := range map[string]int{
		"args, block, set x.0 1, end x.0":                                                                            2,
		"args x.0, block, copy x.0 y.0, end x.0":                                                                     2,
		"args, block, add y.1 x.0 x.0, add x.0 y.1 y.1, end x.0":                                                     3,
		"args, block, set x.1 1, set x.1 1, end x.1":                                                                 3,
		"args, block, set x.1 1, copy x.1 x.1, end x.1":                                                              3,
		"args, block, set x.1 1, set x.2 1, set y.1 1, less x.1 x.1 x.2, end x.1":                                    5,
		"args, block, set x.1 1, goto 1, block, sub x.1 x.1 x.1, end x.1":                                            5,
		"args, block, end x.0, block, set x.1 1, set x.1 1, end x.1":                                                 5,
		"args, block, set x.1 1, end x.0, block, mul x.1 y.0 y.0, end x.1":                                           5,
		"args, block, end x.0, block, set x.0 1, end x.1":                                                            4,
		"args, block, if a.0 1 2, block, set x.1 1, end x.1, block, set x.1 1, end x.1":                              7,
		"args, block, goto 1, block, phi x.0 0:x.0, end x.0":                                                         4,
		"args, block, goto 1, block, phi x.1 0:x.0, phi x.1 0:x.0, end x.1":                                          5,
		"args, block, goto 1, block, phi x.1 0:x.0, set x.1 1, end x.1":                                              5,
		"args, block, set x.1 1, goto 1, block, phi x.1 0:x.0, end x.1":                                              5,
		"args, block, goto 1, block, phi x.1 0:x.0 2:x.0, goto 2, block, phi x.1 1:x.0, goto 1":                      7,
		"args, block, set x.999 1, set x.99 1, set x.9 1, set xx.9 1, set xx.99 1, set xx.9 1, end x.0":              7,
		"args, block, set x.1 1, set x.11 1, set x.111 1, set x.11 1, set x.1 1, end x.0, block, set x.0 1, end x.1": 5,
	} {
		wantVerify(t, list, api.ErrTwice, at)
	}
}

// P8: phis in block 0, and phis that have not just the blocks ahead, by rising numbers, each once.
func TestVerifyPhis(t *testing.T) {
	for _, c := range []struct {
		list  string
		errno api.Errno
		at    int
	}{
		{"args, block, phi x.1, end x.1", api.ErrPhi, 2},
		{"args, block, phi x.1 0:x.0, goto 0", api.ErrPhi, 2},
		{"args, block, phi x.1 0:x.1, if y.0 0 0", api.ErrPhi, 2},
		{"args, block, phi x.1 1:x.0, goto 1, block, goto 0", api.ErrPhi, 2},
		{"args, block, goto 1, block, phi x.1 0:x.0 1:x.1, goto 1", api.OK, 0},
		{"args, block, goto 1, block, phi x.1 0:x.0, goto 1", api.ErrPhi, 4},
		{"args, block, goto 1, block, phi x.1 1:x.1, goto 1", api.ErrPhi, 4},
		{"args, block, goto 1, block, phi x.1, goto 1", api.ErrPhi, 4},
		{"args, block, goto 1, block, phi x.1 1:x.1 0:x.0, goto 1", api.ErrPhi, 4},
		{"args, block, goto 1, block, phi x.1 0:x.0 0:x.0, goto 1", api.ErrPhi, 4},
		{"args, block, goto 1, block, phi x.1 1:x.1 1:x.1, goto 1", api.ErrPhi, 4},
		{"args, block, goto 1, block, phi x.1 0:x.0 0:x.0 1:x.1, goto 1", api.ErrPhi, 4},
		{"args, block, goto 1, block, phi x.1 0:x.0 1:x.1 1:x.1, goto 1", api.ErrPhi, 4},
		{"args, block, goto 1, block, phi x.1 0:x.0 1:x.1 2:x.1, goto 1, block, end x.0", api.ErrPhi, 4},
		{"args, block, goto 1, block, phi x.1 0:x.0 1:x.1, phi y.1 0:x.0, goto 1", api.ErrPhi, 5},
		{"args, block, if x.0 1 2, block, phi y.1 0:x.0, goto 2, block, phi y.2 0:x.0 1:y.1, end y.2", api.OK, 0},
		{"args, block, if x.0 1 2, block, phi y.1 0:x.0, goto 2, block, phi y.2 0:x.0, end y.2", api.ErrPhi, 7},
		{"args, block, if x.0 1 2, block, phi y.1 0:x.0, goto 2, block, phi y.2 1:y.1, end y.2", api.ErrPhi, 7},
		{"args, block, if x.0 1 2, block, phi y.1 0:x.0, goto 2, block, phi y.2 1:y.1 0:x.0, end y.2", api.ErrPhi, 7},
		{"args, block, if x.0 1 1, block, phi y.1 0:x.0, end y.1", api.OK, 0},
		{"args, block, if x.0 1 1, block, phi y.1 0:x.0 0:x.0, end y.1", api.ErrPhi, 4},
		{"args, block, end x.0, block, phi y.1, end y.1", api.OK, 0},
		{"args, block, end x.0, block, phi y.1 0:x.0, end y.1", api.ErrPhi, 4},
		{"args, block, end x.0, block, phi y.1 1:y.7, goto 1", api.OK, 0},
		{"args, block, end x.0, block, phi y.1, goto 1", api.ErrPhi, 4},
		{"args, block, goto 2, block, goto 2, block, phi y.1 0:x.0 1:x.0, end y.1", api.OK, 0},
		{"args, block, goto 2, block, goto 2, block, phi y.1 0:x.0, end y.1", api.ErrPhi, 6},
	} {
		wantVerify(t, c.list, c.errno, c.at)
	}
	far := ", if n.0 2 3, block, goto 1"
	for b := 3; b < 10; b++ {
		far += ", block, goto " + strconv.Itoa(b+1)
	}
	far += ", block, goto 1"
	wantVerify(t, "args, block, goto 1, block, phi x.1 0:x.0 2:x.1 10:x.1"+far, api.OK, 0)
	wantVerify(t, "args, block, goto 1, block, phi x.1 0:x.0 10:x.1 2:x.1"+far, api.ErrPhi, 4)
	wantVerify(t, "args, block, goto 1, block, phi x.1 0:x.0"+strings.Repeat(" 0:x.0", 50)+", end x.1", api.ErrPhi, 4)
}

// P8: versions that lines may take, or not.
func TestVerifyUses(t *testing.T) {
	branch := "args n.0, block, if n.0 1 2, block, set x.1 1, goto 3, block, set x.2 2, goto 3, block, "
	for _, c := range []struct {
		list  string
		errno api.Errno
		at    int
	}{
		{"args, block, end x.1", api.ErrUse, 2},
		{"args x.0, block, end x.1", api.ErrUse, 2},
		{"args, block, out x.1, set x.1 1, end x.1", api.ErrUse, 2},
		{"args, block, copy x.1 x.1, end x.1", api.ErrUse, 2},
		{"args, block, add x.1 x.0 x.1, end x.1", api.ErrUse, 2},
		{"args, block, add x.1 y.1 x.0, end x.1", api.ErrUse, 2},
		{"args, block, set x.1 1, if x.2 0 0", api.ErrUse, 3},
		{"args, block, set x.1 1, goto 1, block, end x.1", api.OK, 0},
		{"args, block, goto 1, block, set x.1 1, goto 0", api.OK, 0},
		{"args, block, out x.1, goto 1, block, set x.1 1, goto 0", api.ErrUse, 2},
		{"args, block, goto 1, block, out x.1, set x.1 1, goto 1", api.ErrUse, 4},
		{"args, block, goto 1, block, phi x.1 0:x.0 1:x.2, out x.1, copy x.2 x.1, goto 1", api.OK, 0},
		{"args, block, goto 1, block, phi x.1 0:x.0 1:x.1, phi y.1 0:x.0 1:x.1, goto 1", api.OK, 0},
		{"args, block, goto 1, block, phi x.1 0:y.1 1:x.1, phi y.1 0:x.0 1:x.1, goto 1", api.ErrUse, 4},
		{"args, block, goto 1, block, phi x.1 0:x.1 1:x.1, goto 1", api.ErrUse, 4},
		{"args, block, goto 1, block, phi x.1 0:x.0 1:x.9, goto 1", api.ErrUse, 4},
		{"args, block, goto 1, block, phi x.1 0:x.2 1:x.2, set x.2 1, goto 1", api.ErrUse, 4},
		{"args, block, set x.2 1, goto 1, block, phi x.1 0:x.2 1:x.2, goto 1", api.OK, 0},
		{branch + "phi x.3 1:x.1 2:x.2, end x.3", api.OK, 0},
		{branch + "phi x.3 1:x.2 2:x.1, end x.3", api.ErrUse, 10},
		{branch + "phi x.3 1:x.1 2:x.1, end x.3", api.ErrUse, 10},
		{branch + "phi x.3 1:x.2 2:x.2, end x.3", api.ErrUse, 10},
		{branch + "phi x.3 1:x.1 2:x.3, end x.3", api.ErrUse, 10},
		{branch + "phi x.3 1:n.0 2:z.0, end x.3", api.OK, 0},
		{branch + "end x.1", api.ErrUse, 10},
		{branch + "out n.0, end x.2", api.ErrUse, 11},
		{"args, block, if n.0 1 2, block, set x.1 1, goto 2, block, end x.1", api.ErrUse, 7},
		{"args, block, if n.0 2 2, block, set x.1 1, goto 2, block, end x.0", api.OK, 0},
		// in and behind blocks that are not reached
		{"args, block, end x.0, block, out y.5, copy x.1 x.1, end x.7", api.OK, 0},
		{"args, block, end x.0, block, phi x.1 1:x.9, goto 1", api.OK, 0},
		{"args, block, goto 2, block, set x.1 1, goto 2, block, end x.1", api.ErrUse, 7},
		{"args, block, goto 2, block, set x.1 1, goto 2, block, phi x.2 0:x.0 1:x.1, end x.2", api.OK, 0},
		{"args, block, goto 2, block, goto 2, block, phi x.2 0:x.0 1:z.9, end x.2", api.OK, 0},
		{"args, block, goto 2, block, goto 2, block, phi x.2 0:z.9 1:x.0, end x.2", api.ErrUse, 6},
		{"args, block, goto 2, block, set x.1 1, goto 2, block, phi x.2 0:x.1 1:x.0, end x.2", api.ErrUse, 7},
		// the first such line by its number, not by the ways
		{"args, block, goto 2, block, end x.1, block, out x.2, goto 1", api.ErrUse, 4},
		{"args, block, goto 2, block, end x.1, block, set x.1 1, goto 1", api.OK, 0},
		{"args, block, end x.0, block, end x.1, block, end x.2", api.OK, 0},
	} {
		wantVerify(t, c.list, c.errno, c.at)
	}
}

// P1, P8: of several faults the one that is named first is told, wherever it stands.
func TestVerifyOrderOfErrors(t *testing.T) {
	use := "args, block, out u.1, "
	phi := use + "goto 1, block, phi p.1, "
	twice := phi + "set t.1 1, set t.1 1, "
	wantVerify(t, use+"end x.0", api.ErrUse, 2)
	wantVerify(t, phi+"end x.0", api.ErrPhi, 5)
	wantVerify(t, twice+"end x.0", api.ErrTwice, 7)
	wantVerify(t, twice+"goto 2", api.ErrName, 8)
	wantVerify(t, twice+"goto 2, block", api.ErrForm, 10)
	wantVerify(t, twice+"goto 2, block, end x", api.ErrForm, 10)
	wantVerify(t, twice+"goto 2"+strings.Repeat(", block, end x", 500), api.ErrLong, 0)
	wantVerify(t, "args, block, phi x.0 0:x.9, goto 0", api.ErrTwice, 2)
	wantVerify(t, "args, block, phi x.1 0:x.9, goto 0", api.ErrPhi, 2)
	wantVerify(t, "args, block, goto 3, block, set x.0 1, goto -1", api.ErrForm, 5)
}

// P1, P8: large texts are told soon.
func TestVerifyLargeTexts(t *testing.T) {
	large := 5000000
	for _, c := range []struct {
		text  string
		errno api.Errno
		at    int
	}{
		{strings.Repeat("\n", large), api.ErrLong, 0},
		{strings.Repeat(" ", large), api.ErrForm, 0},
		{"args" + strings.Repeat(" a.0", large), api.ErrForm, 0},
		{"args\nblock\nend x." + strings.Repeat("1", large), api.ErrForm, 2},
		{"args\nblock\nend " + strings.Repeat("x", large) + ".0", api.ErrForm, 2},
		{"args\nblock\ngoto 1\nblock\nphi x.1" + strings.Repeat(" 0:x.0", large) + "\nend x.1", api.ErrPhi, 4},
		{"args\nblock\ngoto 1\nblock\nphi x.1" + strings.Repeat(" 0:x.0", large) + " 0\nend x.1", api.ErrForm, 4},
		{"args\nblock\ngoto 1\nblock\nphi x.1" + strings.Repeat(" x", large) + "\nend x.1", api.ErrForm, 4},
	} {
		if e, at := ridge.Verify(c.text); e != c.errno || at != c.at {
			t.Errorf("Verify(%.40q..) = %d, %d, want %d, %d", c.text, e, at, c.errno, c.at)
		}
	}
}

// shaper makes a form by dice, often one without a fault.
type shaper struct {
	*dice
	names []string
	given int
	known []string // set in block 0, or in this block so far
	leads [][]string
}

func (s *shaper) name() string { return s.names[s.roll(len(s.names))] }

func (s *shaper) fresh() string {
	s.given++
	return s.name() + "." + strconv.Itoa(s.given)
}

// take tells a version that is known, or at times any other one.
func (s *shaper) take() string {
	if len(s.known) > 0 && s.roll(8) > 0 {
		return s.known[s.roll(len(s.known))]
	}
	return s.name() + "." + strconv.Itoa(s.roll(2)*s.roll(s.given+2)*s.roll(2))
}

func (s *shaper) phi(b int) string {
	phi := "phi " + s.fresh()
	for a := range s.leads {
		if slices.Contains(s.leads[a], strconv.Itoa(b)) {
			phi += " " + strconv.Itoa(a) + ":" + s.take()
		}
	}
	return phi
}

func (s *shaper) line() string {
	line := []string{"set V 7", "copy V T", "add V T T", "sub V T T", "mul V T T", "less V T T", "out T", "out T"}[s.roll(8)]
	for strings.Contains(line, "T") {
		line = strings.Replace(line, "T", s.take(), 1)
	}
	return strings.Replace(line, "V", s.fresh(), 1)
}

func (s *shaper) block(b int) []string {
	list := []string{"block"}
	for range s.roll(4) * min(b, 1) {
		list = append(list, s.phi(b))
	}
	for _, phi := range list[1:] {
		s.known = append(s.known, setIn(phi))
	}
	for range s.roll(4) {
		line := s.line()
		list = append(list, line)
		if v := setIn(line); v != "" {
			s.known = append(s.known, v)
		}
	}
	switch to := strings.Join(s.leads[b], " "); len(s.leads[b]) {
	case 0:
		return append(list, "end "+s.take())
	case 1:
		return append(list, "goto "+to)
	default:
		return append(list, "if "+s.take()+" "+to)
	}
}

// shaped makes a form: first where the terminators lead, so that the phis can have the blocks ahead, then the lines.
func shaped(d *dice) string {
	s := shaper{dice: d, names: []string{"a", "b", "ab", "zzz"}[:1+d.roll(4)], leads: make([][]string, 1+d.roll(6))}
	for b := range s.leads {
		for range d.roll(3) {
			s.leads[b] = append(s.leads[b], strconv.Itoa(d.roll(len(s.leads))))
		}
	}
	args := "args"
	for _, x := range s.names[:d.roll(len(s.names)+1)] {
		args += " " + x + ".0"
		s.known = append(s.known, x+".0")
	}
	list := append([]string{args}, s.block(0)...)
	everywhere := len(s.known)
	for b := 1; b < len(s.leads); b++ {
		list = append(list, s.block(b)...)
		s.known = s.known[:everywhere]
	}
	return strings.Join(list, "\n")
}

// misnumbered changes a few digits of a text.
func misnumbered(d *dice, text string) string {
	bytes := []byte(text)
	for range 1 + d.roll(2) {
		for range 200 {
			if i := d.roll(len(bytes)); bytes[i] >= '0' && bytes[i] <= '9' {
				bytes[i] = byte('0' + d.roll(10)*d.roll(2) + d.roll(2)*d.roll(3))
				break
			}
		}
	}
	return string(bytes)
}

// P8, P9: forms by dice, whole and spoiled, are looked over and run as the document says.
func TestFormsByDice(t *testing.T) {
	d := dice(11)
	seen := map[api.Errno]int{}
	ended := 0
	for i := range 16000 {
		form := shaped(&d)
		if program := somewhat(&d); i%2 == 1 {
			if e, _ := plainCheck(program); e == api.OK {
				form = plainConvert(program)
			}
		}
		switch d.roll(4) {
		case 0:
			form = spoiled(&d, form)
		case 1:
			form = misnumbered(&d, form)
		}
		errno, at := plainVerify(form)
		seen[errno]++
		if e, a := ridge.Verify(form); e != errno || a != at {
			t.Fatalf("Verify(%q) = %d, %d, want %d, %d", form, e, a, errno, at)
		}
		var args []int64
		for range d.roll(6) {
			args = append(args, int64(d.roll(7)-3)<<d.roll(63))
		}
		fuel := d.roll(60)
		var want api.Result
		if errno == api.OK {
			want = plainExec(form, args, fuel)
		}
		r, e, a := ridge.Exec(form, args, fuel)
		if r != want || e != errno || a != at {
			t.Fatalf("Exec(%q, %v, %d) = %+v, %d, %d, want %+v, %d, %d", form, args, fuel, r, e, a, want, errno, at)
		}
		if r.Ended {
			ended++
		}
	}
	for _, errno := range []api.Errno{api.OK, api.ErrForm, api.ErrName, api.ErrTwice, api.ErrPhi, api.ErrUse} {
		if seen[errno] < 200 || ended < 2000 {
			t.Errorf("the dice are poor: %v, %d ended", seen, ended)
		}
	}
}
