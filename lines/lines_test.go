package lines

import (
	"math"
	"reflect"
	"slices"
	"strings"
	"testing"

	"ridge/api"
)

// A line sets a name just if its word reckons: else Reckon could be asked of a word that has no function.
func TestWhatSetsReckons(t *testing.T) {
	for w, m := range meanings {
		if m.text == "" || m.parts[0] == nothing {
			t.Errorf("word %d means nothing", w)
		}
		if slices.Contains(m.parts[:], sets) != (m.reckon != nil) {
			t.Errorf("%s: sets %v, reckons %v", m.text, slices.Contains(m.parts[:], sets), m.reckon != nil)
		}
		if m.ends && m.reckon != nil {
			t.Errorf("%s ends a block, and reckons", m.text)
		}
		if slices.Contains(m.parts[:], number) && slices.Contains(m.parts[:], takes) {
			t.Errorf("%s takes a number of its own and names too", m.text)
		}
	}
}

// The table and the functions say the same of each word.
func TestTableAndFunctions(t *testing.T) {
	numbers := []int64{0, 1, -1, 2, 7, -1000000000, 1 << 32, math.MaxInt64, math.MinInt64, math.MaxInt64 - 1}
	for i, m := range meanings {
		w := Word(i)
		if found, ok := find(m.text); !ok || found != w {
			t.Errorf("find(%q) = %d, %v, want %d", m.text, found, ok, w)
		}
		if w.parts() != m.parts || w.Ends() != m.ends {
			t.Errorf("%s: %v, %v, in the table %v, %v", m.text, w.parts(), w.Ends(), m.parts, m.ends)
		}
		for _, y := range numbers {
			for _, z := range numbers {
				if m.reckon != nil && w.Reckon(y, z) != m.reckon(y, z) {
					t.Errorf("%s of %d and %d: %d, in the table %d", m.text, y, z, w.Reckon(y, z), m.reckon(y, z))
				}
			}
		}
	}
	for _, text := range []string{"", "Set", "sets", "args", "block", "phi"} {
		if w, ok := find(text); ok {
			t.Errorf("find(%q) = %d", text, w)
		}
	}
	if w := Word(len(meanings)); w.parts() != ([most]part{}) || w.Ends() {
		t.Errorf("a word behind the last one: %v, %v", w.parts(), w.Ends())
	}
}

// v is a version as in programs, where it is no more than a name.
func v(name string) Version { return Version{Name: name} }

func TestRead(t *testing.T) {
	for text, want := range map[string]Line{
		"set abc -5": {Word: Set, Sets: v("abc"), Number: -5},
		"copy x y":   {Word: Copy, Sets: v("x"), Takes: []Version{v("y")}},
		"add x y z":  {Word: Add, Sets: v("x"), Takes: []Version{v("y"), v("z")}},
		"less x x y": {Word: Less, Sets: v("x"), Takes: []Version{v("x"), v("y")}},
		"out x":      {Word: Out, Takes: []Version{v("x")}},
		"goto 19":    {Word: Goto, Leads: []int{19}},
		"if x 2 0":   {Word: If, Takes: []Version{v("x")}, Leads: []int{2, 0}},
		"end x":      {Word: End, Takes: []Version{v("x")}},
	} {
		if line, ok := Read(text, Names); !ok || !reflect.DeepEqual(line, want) {
			t.Errorf("Read(%q) = %+v, %v, want %+v", text, line, ok, want)
		}
		if line, ok := Read(text, Versions); ok != (text == "goto 19") {
			t.Errorf("with versions Read(%q) = %+v, %v", text, line, ok)
		}
	}
	for _, text := range []string{"", "args", "args x", "block", "phi x", "set x", "set x 1 1", "add x y z w", "end x ", "end x.0"} {
		if line, ok := Read(text, Names); ok {
			t.Errorf("Read(%q) = %+v", text, line)
		}
	}
}

// What is read of a form is written as it was.
func TestReadAndText(t *testing.T) {
	for _, text := range []string{
		"set abc.7 -5", "set x.1 0", "set x.1 1000000000", "copy x.1 y.999", "add x.3 y.0 z.2", "sub x.3 y.0 z.2", "mul x.3 y.0 z.2", "less x.10 x.9 x.8",
		"out x.0", "goto 39", "if x.1 2 0", "if x.1 0 0", "end zz.100",
	} {
		if line, ok := Read(text, Versions); !ok || line.Text() != text {
			t.Errorf("Read(%q) = %+v, %v, as a text %q", text, line, ok, line.Text())
		}
	}
	for _, text := range []string{"phi x.1", "phi x.1 0:x.0", "phi ab.12 3:y.999 39:x.0 0:ab.12 1000000000:z.1"} {
		if phi, ok := ReadPhi(text); !ok || phi.Text() != text {
			t.Errorf("ReadPhi(%q) = %+v, %v, as a text %q", text, phi, ok, phi.Text())
		}
	}
	for _, text := range []string{"args", "args x.0", "args d.0 c.0 bb.0 aaa.0"} {
		if args, ok := ReadArgs(text, Versions); !ok || ArgsText(args) != text {
			t.Errorf("ReadArgs(%q) = %v, %v, as a text %q", text, args, ok, ArgsText(args))
		}
	}
}

func TestReadArgs(t *testing.T) {
	for text, want := range map[string][]Version{"args": {}, "args x": {v("x")}, "args d c b a": {v("d"), v("c"), v("b"), v("a")}} {
		if args, ok := ReadArgs(text, Names); !ok || !slices.Equal(args, want) {
			t.Errorf("ReadArgs(%q) = %v, %v", text, args, ok)
		}
	}
	for _, text := range []string{"", "block", "args ", "args x x", "args a b c d e", "args 1", "args x.0"} {
		if args, ok := ReadArgs(text, Names); ok {
			t.Errorf("ReadArgs(%q) = %v", text, args)
		}
	}
	for _, text := range []string{"", "block", "args ", "args x", "args x.1", "args x.0 x.0", "args a.0 b.0 c.0 d.0 e.0", "args x.0 y.0 x.1"} {
		if args, ok := ReadArgs(text, Versions); ok {
			t.Errorf("with versions ReadArgs(%q) = %v", text, args)
		}
	}
}

func TestReadPhi(t *testing.T) {
	for _, text := range []string{"", "phi", "phi ", "phi x", "phi x.1 ", "phi  x.1", "phi x.1 0", "phi x.1 0:", "phi x.1 :x.0", "phi x.1 0:x", "phi x.1 0:x.0 ", "phi x.1 0:x.0:x.0", "phi x.1 -1:x.0", "phi x.1000", "end x.0"} {
		if phi, ok := ReadPhi(text); ok {
			t.Errorf("ReadPhi(%q) = %+v", text, phi)
		}
	}
	long := "phi x.1" + strings.Repeat(" 0:x.0", 100)
	if phi, ok := ReadPhi(long); !ok || len(phi.Choices) <= api.MaxNodes {
		t.Errorf("a long phi: %v, %d choices", ok, len(phi.Choices))
	}
	if phi, ok := ReadPhi(long + " 0"); ok {
		t.Errorf("a long phi with a fault at its end: %d choices", len(phi.Choices))
	}
}

func TestNext(t *testing.T) {
	for text, want := range map[string][3]int{"goto 3": {3, 3, 3}, "if x 1 2": {1, 2, 1}, "if x 4 4": {4, 4, 4}} {
		line, _ := Read(text, Names)
		if got := [3]int{line.Next(-1), line.Next(0), line.Next(math.MaxInt64)}; got != want {
			t.Errorf("%s leads to %v, want %v", text, got, want)
		}
	}
}
