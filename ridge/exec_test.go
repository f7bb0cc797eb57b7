package ridge_test

import (
	"math"
	"slices"
	"strconv"
	"strings"
	"testing"

	"ridge/api"
	"ridge/ridge"
)

func wantExec(t *testing.T, list string, args []int64, fuel int, want api.Result) {
	t.Helper()
	if r, e, at := ridge.Exec(lined(list), args, fuel); r != want || e != api.OK || at != 0 {
		t.Errorf("Exec(%.300q, %v, %d) = %+v, %d, %d, want %+v", list, args, fuel, r, e, at, want)
	}
	if r := plainExec(lined(list), args, fuel); r != want {
		t.Errorf("the document, of %.300q, %v, %d: %+v, not %+v", list, args, fuel, r, want)
	}
}

// P9: the form of example 3 of the document.
func TestExecExampleThree(t *testing.T) {
	wantExec(t, exampleThree, []int64{2}, 2000, api.Result{Ended: true, Value: 2, Trace: "0 1"})
	wantExec(t, exampleThree, []int64{0}, 2000, api.Result{Ended: true})
	wantExec(t, exampleThree, nil, 2000, api.Result{Ended: true})
	wantExec(t, exampleThree, []int64{5}, 2000, api.Result{Ended: true, Value: 5, Trace: "0 1 2 3 4"})
}

// P9: what each line does with versions.
func TestExecLines(t *testing.T) {
	for _, c := range []struct {
		list  string
		value int64
		trace string
	}{
		{"end a.0", 9, ""},
		{"end b.0", -4, ""},
		{"end x.0", 0, ""},
		{"set a.1 12, out a.0, end a.1", 12, "9"},
		{"set a.1 12, set a.2 13, out a.1, end a.0", 9, "12"},
		{"copy x.1 a.0, out x.0, end x.1", 9, "0"},
		{"add x.1 a.0 b.0, end x.1", 5, ""},
		{"sub x.1 a.0 b.0, sub x.2 b.0 a.0, out x.1, end x.2", -13, "13"},
		{"mul x.1 a.0 b.0, end x.1", -36, ""},
		{"less x.1 a.0 b.0, less x.2 b.0 a.0, less x.3 a.0 a.0, out x.1, out x.2, out x.3, end x.2", 1, "0 1 0"},
		{"set x.1 1, set x.11 11, set x.111 111, set xx.1 2, out x.1, out x.11, out x.111, end xx.1", 2, "1 11 111"},
		{"set x.999 7, if x.999 1 2, block, end x.999, block, end b.0", 7, ""},
		{"if x.0 1 2, block, end a.0, block, end b.0", -4, ""},
		{"goto 2, block, end x.1, block, set x.1 3, out x.1, goto 1", 3, "3"},
		{"end a.0, block, out z.9, end z.8", 9, ""},
	} {
		wantExec(t, "args a.0 b.0, block, "+c.list, []int64{9, -4}, 2000, api.Result{Ended: true, Value: c.value, Trace: c.trace})
	}
	for _, c := range []struct {
		word       string
		a, b, want int64
	}{
		{"add", math.MaxInt64, 1, math.MinInt64},
		{"sub", math.MinInt64, 1, math.MaxInt64},
		{"mul", math.MinInt64, -1, math.MinInt64},
		{"less", math.MinInt64, math.MaxInt64, 1},
	} {
		want := api.Result{Ended: true, Value: c.want, Trace: strconv.FormatInt(c.want, 10)}
		wantExec(t, "args a.0 b.0, block, "+c.word+" x.1 a.0 b.0, out x.1, end x.1", []int64{c.a, c.b}, 3, want)
	}
}

// P9: a phi takes the version for the block from which the run came.
func TestExecPhis(t *testing.T) {
	branch := "args n.0, block, if n.0 1 2, block, set x.1 11, goto 3, block, set x.2 22, goto 3, block, phi x.3 1:x.1 2:x.2, phi y.1 1:n.0 2:y.0, out y.1, end x.3"
	wantExec(t, branch, []int64{-7}, 9, api.Result{Ended: true, Value: 11, Trace: "-7"})
	wantExec(t, branch, []int64{0}, 9, api.Result{Ended: true, Value: 22, Trace: "0"})
	skip := "args n.0, block, if n.0 1 2, block, goto 2, block, phi x.1 0:n.0 1:z.0, end x.1"
	wantExec(t, skip, []int64{5}, 9, api.Result{Ended: true})
	wantExec(t, skip, []int64{0}, 9, api.Result{Ended: true})
	both := "args n.0, block, if n.0 1 1, block, phi x.1 0:n.0, end x.1"
	wantExec(t, both, []int64{5}, 2, api.Result{Ended: true, Value: 5})
	wantExec(t, both, []int64{0}, 2, api.Result{Ended: true})
	unreached := "args n.0, block, goto 2, block, goto 2, block, phi x.1 0:n.0 1:z.9, end x.1"
	wantExec(t, unreached, []int64{5}, 9, api.Result{Ended: true, Value: 5})
	loop := "args n.0, block, set k.1 1, goto 1, block, phi n.1 0:n.0 1:n.2, phi s.1 0:s.0 1:s.2, add s.2 s.1 n.1, sub n.2 n.1 k.1, out s.1, if n.2 1 2, block, end s.2"
	wantExec(t, loop, []int64{4}, 99, api.Result{Ended: true, Value: 10, Trace: "0 4 7 9"})
	far := "args n.0, block, goto 1, block, phi x.1 0:n.0 2:y.1 10:y.2, if x.1 2 3, block, set y.1 0, goto 1"
	for b := 3; b < 10; b++ {
		far += ", block, goto " + strconv.Itoa(b+1)
	}
	far += ", block, out x.1, set y.2 8, goto 1"
	wantExec(t, far, []int64{1}, 30, api.Result{Trace: "0 0"})
}

// P9: all phis of a block take what was ahead of all of them.
func TestExecPhisAtOnce(t *testing.T) {
	for order := range 2 {
		phis := []string{"phi a.1 0:a.0 2:b.1", "phi b.1 0:b.0 2:a.1"}
		if order == 1 {
			slices.Reverse(phis)
		}
		list := "args n.0 a.0 b.0, block, set k.1 1, goto 1, block, phi n.1 0:n.0 2:n.2, " + strings.Join(phis, ", ") + ", if n.1 2 3, block, sub n.2 n.1 k.1, goto 1, block, out a.1, out b.1, end a.1"
		for n := range int64(5) {
			want := api.Result{Ended: true, Value: 7, Trace: "7 8"}
			if n%2 == 1 {
				want = api.Result{Ended: true, Value: 8, Trace: "8 7"}
			}
			wantExec(t, list, []int64{n, 7, 8}, 99, want)
		}
	}
	ring := "args, block, set x.1 1, set y.1 2, set z.1 3, goto 1, block, phi x.2 0:x.1 1:y.2, phi y.2 0:y.1 1:z.2, phi z.2 0:z.1 1:x.2, out x.2, goto 1"
	wantExec(t, ring, nil, 4+2*7, api.Result{Trace: "1 2 3 1 2 3 1"})
	own := "args n.0, block, goto 1, block, phi x.1 0:n.0 1:x.1, phi y.1 0:y.0 1:x.1, out y.1, goto 1"
	wantExec(t, own, []int64{6}, 7, api.Result{Trace: "0 6 6"})
}

// P9: phis cost nothing; fuel that is just enough, one less, none, and as much as may be.
func TestExecFuel(t *testing.T) {
	for fuel := range 22 {
		want := api.Result{}
		if fuel >= 6 {
			want.Trace = "0"
		}
		if fuel >= 12 {
			want.Trace = "0 1"
		}
		if fuel >= 18 {
			want.Ended, want.Value = true, 2
		}
		wantExec(t, exampleThree, []int64{2}, fuel, want)
	}
	phis := "args n.0, block, goto 1, block, phi x.1 0:n.0, phi y.1 0:n.0, phi z.1 0:n.0, end z.1"
	wantExec(t, phis, []int64{3}, 2, api.Result{Ended: true, Value: 3})
	wantExec(t, phis, []int64{3}, 1, api.Result{})
	wantExec(t, phis, []int64{3}, 0, api.Result{})
	wantExec(t, "args, block, end x.0", nil, 1, api.Result{Ended: true})
	wantExec(t, "args, block, end x.0", nil, 0, api.Result{})
	wantExec(t, "args, block, goto 0", nil, 2000, api.Result{})
	count := "args n.0, block, set k.1 1, goto 1, block, phi n.1 0:n.0 1:n.2, sub n.2 n.1 k.1, if n.2 1 2, block, end n.1"
	wantExec(t, count, []int64{998}, 2000, api.Result{Ended: true, Value: 1})
	wantExec(t, count, []int64{998}, 1999, api.Result{Ended: true, Value: 1})
	wantExec(t, count, []int64{998}, 1998, api.Result{})
	wantExec(t, count, []int64{999}, 2000, api.Result{})
}

// P9: more arguments than args names, fewer, and none.
func TestExecArguments(t *testing.T) {
	four := "args d.0 c.0 b.0 a.0, block, out a.0, out b.0, out c.0, out d.0, out e.0, end d.0"
	wantExec(t, four, []int64{1, 2, 3, 4}, 9, api.Result{Ended: true, Value: 1, Trace: "4 3 2 1 0"})
	wantExec(t, four, []int64{1, 2, 3, 4, 5, 6}, 9, api.Result{Ended: true, Value: 1, Trace: "4 3 2 1 0"})
	wantExec(t, four, []int64{1, 2}, 9, api.Result{Ended: true, Value: 1, Trace: "0 0 2 1 0"})
	wantExec(t, four, nil, 9, api.Result{Ended: true, Trace: "0 0 0 0 0"})
	wantExec(t, "args, block, end a.0", []int64{1, 2}, 9, api.Result{Ended: true})
}

// P1, P9: as many phis as may be, at each step, are done soon.
func TestExecManyPhis(t *testing.T) {
	list := "args n.0, block, goto 1, block"
	for i := range 995 {
		list += ", phi x." + strconv.Itoa(i+1) + " 0:n.0 1:x." + strconv.Itoa((i+1)%995+1)
	}
	if r, e, at := ridge.Exec(lined(list+", goto 1"), []int64{3}, 2000); r != (api.Result{}) || e != api.OK || at != 0 {
		t.Errorf("Exec of many phis = %+v, %d, %d", r, e, at)
	}
}

// P1, P9: what is refused, in which order, with nothing beside it.
func TestExecRefuses(t *testing.T) {
	for _, fuel := range []int{-1, 0, 9, 2000, 2001, math.MaxInt, math.MinInt} {
		for _, c := range []struct {
			list  string
			errno api.Errno
			at    int
		}{
			{strings.Repeat(", ", 1000), api.ErrLong, 0},
			{"", api.ErrForm, 0},
			{exampleTwo, api.ErrForm, 0},
			{"args, block, out x.0, end x", api.ErrForm, 3},
			{"args a.0, block, end a.0, block", api.ErrForm, 4},
			{"args a.0, block, out a.0, end a.0, block, goto 2", api.ErrName, 5},
			{"args a.0, block, out a.0, end a.0, block, set x.0 1, end a.0", api.ErrTwice, 5},
			{"args a.0, block, out a.0, end a.0, block, phi x.1 0:x.0, end a.0", api.ErrPhi, 5},
			{"args a.0, block, out a.0, goto 1, block, end a.1", api.ErrUse, 5},
		} {
			if r, e, at := ridge.Exec(lined(c.list), []int64{7}, fuel); r != (api.Result{}) || e != c.errno || at != c.at {
				t.Errorf("Exec(%.60q, .., %d) = %+v, %d, %d, want %d, %d", c.list, fuel, r, e, at, c.errno, c.at)
			}
		}
	}
	for _, fuel := range []int{-1, 2001, 1 << 32, 1<<32 + 1, math.MaxInt, math.MinInt, -1 << 32} {
		if r, e, at := ridge.Exec(lined("args a.0, block, out a.0, end a.0"), []int64{7}, fuel); r != (api.Result{}) || e != api.ErrConf || at != 0 {
			t.Errorf("Exec(.., %d) = %+v, %d, %d", fuel, r, e, at)
		}
	}
}

// P2, P9: a run hangs on its arguments alone, and writes into none of them, nor behind them.
func TestExecKeepsNothing(t *testing.T) {
	behind := []int64{1, 2, 3, 4, 5, 6}
	form := lined("args a.0 b.0 c.0, block, set a.1 7, add d.1 a.1 b.0, out d.1, goto 1, block, phi b.1 0:d.1, out c.0, end b.1")
	want := api.Result{Ended: true, Value: 9, Trace: "9 0"}
	for range 3 {
		if r, e, at := ridge.Exec(form, behind[:2], 9); r != want || e != api.OK || at != 0 {
			t.Errorf("Exec = %+v, %d, %d, want %+v", r, e, at, want)
		}
		if r, _, _ := ridge.Exec(lined("args, block, out a.0, out b.0, end c.0"), nil, 9); r != (api.Result{Ended: true, Trace: "0 0"}) {
			t.Errorf("what another run set is left: %+v", r)
		}
	}
	if !slices.Equal(behind, []int64{1, 2, 3, 4, 5, 6}) {
		t.Errorf("the arguments are written into: %v", behind)
	}
}
