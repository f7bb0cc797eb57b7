package ridge_test

import (
	"math"
	"slices"
	"strconv"
	"strings"
	"testing"

	"ridge/api"
	"ridge/ridge"
)

func wantRun(t *testing.T, list string, args []int64, fuel int, want api.Result) {
	t.Helper()
	if r, e, at := ridge.Run(lined(list), args, fuel); r != want || e != api.OK || at != 0 {
		t.Errorf("Run(%.300q, %v, %d) = %+v, %d, %d, want %+v", list, args, fuel, r, e, at, want)
	}
	if r := plainRun(lined(list), args, fuel); r != want {
		t.Errorf("the document, of %.300q, %v, %d: %+v, not %+v", list, args, fuel, r, want)
	}
}

// P7: example 2 of the document.
func TestRunExampleTwo(t *testing.T) {
	wantRun(t, exampleTwo, []int64{2}, 2000, api.Result{Ended: true, Value: 2, Trace: "0 1"})
	wantRun(t, exampleTwo, []int64{0}, 2000, api.Result{Ended: true})
	wantRun(t, exampleTwo, []int64{-5}, 2000, api.Result{Ended: true})
	wantRun(t, exampleTwo, []int64{5}, 2000, api.Result{Ended: true, Value: 5, Trace: "0 1 2 3 4"})
}

// P7: what each line does.
func TestRunLines(t *testing.T) {
	for _, c := range []struct {
		list  string
		value int64
		trace string
	}{
		{"end a", 9, ""},
		{"end b", -4, ""},
		{"end x", 0, ""},
		{"set x 12, end x", 12, ""},
		{"set a -12, end a", -12, ""},
		{"set x 1000000000, set y -1000000000, out x, end y", -1000000000, "1000000000"},
		{"set x 5, set x 0, end x", 0, ""},
		{"copy x a, set a 1, out a, end x", 9, "1"},
		{"copy a a, end a", 9, ""},
		{"copy a x, end a", 0, ""},
		{"add x a b, end x", 5, ""},
		{"add a a a, end a", 18, ""},
		{"sub x a b, end x", 13, ""},
		{"sub x b a, end x", -13, ""},
		{"sub b a b, sub b a b, end b", -4, ""},
		{"mul x a b, end x", -36, ""},
		{"mul x b b, end x", 16, ""},
		{"less x a b, less y b a, less z a a, out x, out y, out z, end y", 1, "0 1 0"},
		{"less a a x, less b b x, out a, end b", 1, "0"},
		{"out a, out b, out x, out a, end x", 0, "9 -4 0 9"},
		{"goto 2, block, end a, block, out b, goto 1", 9, "-4"},
		{"if a 1 2, block, end a, block, end b", 9, ""},
		{"if b 1 2, block, end a, block, end b", 9, ""},
		{"if x 1 2, block, end a, block, end b", -4, ""},
		{"if a 1 1, block, end b", -4, ""},
		{"if x 1 1, block, end b", -4, ""},
		{"end a, block, end b", 9, ""},
	} {
		wantRun(t, "args a b, block, "+c.list, []int64{9, -4}, 2000, api.Result{Ended: true, Value: c.value, Trace: c.trace})
	}
}

// P7: numbers of 64 bits come in again at the other end.
func TestRunNumbersComeInAgain(t *testing.T) {
	for _, c := range []struct {
		word string
		a, b int64
		want int64
	}{
		{"add", math.MaxInt64, 1, math.MinInt64},
		{"add", math.MinInt64, -1, math.MaxInt64},
		{"add", math.MinInt64, math.MinInt64, 0},
		{"add", math.MaxInt64, math.MaxInt64, -2},
		{"sub", math.MinInt64, 1, math.MaxInt64},
		{"sub", math.MaxInt64, -1, math.MinInt64},
		{"sub", 0, math.MinInt64, math.MinInt64},
		{"mul", math.MinInt64, -1, math.MinInt64},
		{"mul", math.MaxInt64, 2, -2},
		{"mul", 1 << 32, 1 << 32, 0},
		{"mul", 3037000500, 3037000500, -9223372036709301616},
		{"less", math.MinInt64, math.MaxInt64, 1},
		{"less", math.MaxInt64, math.MinInt64, 0},
		{"less", math.MinInt64, 1, 1},
		{"less", 1, math.MinInt64, 0},
		{"less", math.MaxInt64, math.MaxInt64, 0},
	} {
		want := api.Result{Ended: true, Value: c.want, Trace: strconv.FormatInt(c.want, 10)}
		wantRun(t, "args a b, block, "+c.word+" x a b, out x, end x", []int64{c.a, c.b}, 3, want)
	}
	wantRun(t, "args a b, block, out a, out b, if a 1 1, block, end b", []int64{math.MaxInt64, math.MinInt64}, 9,
		api.Result{Ended: true, Value: math.MinInt64, Trace: "9223372036854775807 -9223372036854775808"})
	wantRun(t, "args a, block, if a 1 2, block, end a, block, end x", []int64{1 << 32}, 9, api.Result{Ended: true, Value: 1 << 32})
}

// P7: fuel that is just enough, one less, none, and as much as may be.
func TestRunFuel(t *testing.T) {
	for fuel := range 20 {
		want := api.Result{}
		if fuel >= 5 {
			want.Trace = "0"
		}
		if fuel >= 11 {
			want.Trace = "0 1"
		}
		if fuel >= 17 {
			want.Ended, want.Value = true, 2
		}
		wantRun(t, exampleTwo, []int64{2}, fuel, want)
	}
	wantRun(t, "args, block, end x", nil, 0, api.Result{})
	wantRun(t, "args, block, end x", nil, 1, api.Result{Ended: true})
	wantRun(t, "args a, block, end a", []int64{7}, 0, api.Result{})
	wantRun(t, "args, block, goto 0", nil, 2000, api.Result{})
	wantRun(t, "args a, block, out a, goto 0", []int64{-1}, 2000, api.Result{Trace: strings.TrimPrefix(strings.Repeat(" -1", 1000), " ")})
	wantRun(t, "args a, block, out a, goto 0", []int64{-1}, 1999, api.Result{Trace: strings.TrimPrefix(strings.Repeat(" -1", 1000), " ")})
	wantRun(t, "args a, block, out a, goto 0", []int64{-1}, 1998, api.Result{Trace: strings.TrimPrefix(strings.Repeat(" -1", 999), " ")})
	count := "args n, block, set k 1, goto 1, block, sub n n k, if n 1 2, block, end k"
	wantRun(t, count, []int64{998}, 2000, api.Result{Ended: true, Value: 1})
	wantRun(t, count, []int64{998}, 1999, api.Result{Ended: true, Value: 1})
	wantRun(t, count, []int64{998}, 1998, api.Result{})
	wantRun(t, count, []int64{999}, 2000, api.Result{})
}

// P7: more arguments than names, fewer, and none.
func TestRunArguments(t *testing.T) {
	four := "args d c b a, block, out a, out b, out c, out d, out e, end d"
	wantRun(t, four, []int64{1, 2, 3, 4}, 9, api.Result{Ended: true, Value: 1, Trace: "4 3 2 1 0"})
	wantRun(t, four, []int64{1, 2, 3, 4, 5, 6}, 9, api.Result{Ended: true, Value: 1, Trace: "4 3 2 1 0"})
	wantRun(t, four, []int64{1, 2, 3}, 9, api.Result{Ended: true, Value: 1, Trace: "0 3 2 1 0"})
	wantRun(t, four, []int64{1}, 9, api.Result{Ended: true, Value: 1, Trace: "0 0 0 1 0"})
	wantRun(t, four, []int64{}, 9, api.Result{Ended: true, Trace: "0 0 0 0 0"})
	wantRun(t, four, nil, 9, api.Result{Ended: true, Trace: "0 0 0 0 0"})
	wantRun(t, "args, block, end a", []int64{1, 2}, 9, api.Result{Ended: true})
	wantRun(t, "args abc, block, out a, out ab, end abc", []int64{1, 2}, 9, api.Result{Ended: true, Value: 1, Trace: "0 0"})
	wantRun(t, "args a, block, end a", make([]int64, 100000), 9, api.Result{Ended: true})
}

// P1, P7: what is refused, in which order, with nothing beside it.
func TestRunRefuses(t *testing.T) {
	for _, fuel := range []int{-1, 0, 9, 2000, 2001, math.MaxInt, math.MinInt} {
		for _, c := range []struct {
			list  string
			errno api.Errno
			at    int
		}{
			{strings.Repeat(", ", 120), api.ErrLong, 0},
			{"", api.ErrForm, 0},
			{"args, block, out x, end 1", api.ErrForm, 3},
			{"args a, block, end a, block", api.ErrForm, 4},
			{"args a, block, out a, end a, block, goto 2", api.ErrName, 5},
			{"args a b c d, block, add e f g, copy h i, end a", api.ErrMany, 3},
		} {
			if r, e, at := ridge.Run(lined(c.list), []int64{7}, fuel); r != (api.Result{}) || e != c.errno || at != c.at {
				t.Errorf("Run(%q, .., %d) = %+v, %d, %d, want %d, %d", c.list, fuel, r, e, at, c.errno, c.at)
			}
		}
	}
	for _, fuel := range []int{-1, 2001, 1 << 32, 1<<32 + 1, math.MaxInt, math.MinInt, -1 << 32} {
		if r, e, at := ridge.Run(lined("args a, block, out a, end a"), []int64{7}, fuel); r != (api.Result{}) || e != api.ErrConf || at != 0 {
			t.Errorf("Run(.., %d) = %+v, %d, %d", fuel, r, e, at)
		}
	}
}

// P2, P7: a run hangs on its arguments alone, and writes into none of them, nor behind them.
func TestRunKeepsNothing(t *testing.T) {
	behind := []int64{1, 2, 3, 4, 5, 6}
	program := lined("args a b c, block, set a 7, set b 8, add d a b, out d, goto 1, block, out c, end d")
	want := api.Result{Ended: true, Value: 15, Trace: "15 0"}
	for range 3 {
		if r, e, at := ridge.Run(program, behind[:2], 9); r != want || e != api.OK || at != 0 {
			t.Errorf("Run = %+v, %d, %d, want %+v", r, e, at, want)
		}
		if r, _, _ := ridge.Run(lined("args, block, out a, out d, end c"), nil, 9); r != (api.Result{Ended: true, Trace: "0 0"}) {
			t.Errorf("what another run set is left: %+v", r)
		}
	}
	if !slices.Equal(behind, []int64{1, 2, 3, 4, 5, 6}) {
		t.Errorf("the arguments are written into: %v", behind)
	}
}
