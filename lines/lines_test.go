package lines

import (
	"reflect"
	"slices"
	"testing"
)

// A line sets a name just if its word reckons: else Reckon could be asked of a word that has no function.
func TestWhatSetsReckons(t *testing.T) {
	for w, m := range meanings {
		if m.text == "" || m.parts[0] == nothing {
			t.Errorf("word %d means nothing", w)
		}
		if slices.Contains(m.parts[:], sets) != (m.reckon != nil) {
			t.Errorf("%s: sets %v, reckons %v", m.text, slices.Contains(m.parts[:], sets), m.reckon != nil)
		}
		if m.ends && m.reckon != nil {
			t.Errorf("%s ends a block, and reckons", m.text)
		}
		if slices.Contains(m.parts[:], number) && slices.Contains(m.parts[:], takes) {
			t.Errorf("%s takes a number of its own and names too", m.text)
		}
	}
}

func TestRead(t *testing.T) {
	for text, want := range map[string]Line{
		"set abc -5": {Word: Set, Sets: "abc", Number: -5},
		"copy x y":   {Word: Copy, Sets: "x", Takes: []string{"y"}},
		"add x y z":  {Word: Add, Sets: "x", Takes: []string{"y", "z"}},
		"less x x y": {Word: Less, Sets: "x", Takes: []string{"x", "y"}},
		"out x":      {Word: Out, Takes: []string{"x"}},
		"goto 19":    {Word: Goto, Leads: []int{19}},
		"if x 2 0":   {Word: If, Takes: []string{"x"}, Leads: []int{2, 0}},
		"end x":      {Word: End, Takes: []string{"x"}},
	} {
		if line, ok := Read(text); !ok || !reflect.DeepEqual(line, want) {
			t.Errorf("Read(%q) = %+v, %v, want %+v", text, line, ok, want)
		}
	}
	for _, text := range []string{"", "args", "args x", "block", "phi x", "set x", "set x 1 1", "add x y z w", "end x "} {
		if line, ok := Read(text); ok {
			t.Errorf("Read(%q) = %+v", text, line)
		}
	}
}

func TestReadArgs(t *testing.T) {
	for text, want := range map[string][]string{"args": {}, "args x": {"x"}, "args d c b a": {"d", "c", "b", "a"}} {
		if names, ok := ReadArgs(text); !ok || !slices.Equal(names, want) {
			t.Errorf("ReadArgs(%q) = %v, %v", text, names, ok)
		}
	}
	for _, text := range []string{"", "block", "args ", "args x x", "args a b c d e", "args 1"} {
		if names, ok := ReadArgs(text); ok {
			t.Errorf("ReadArgs(%q) = %v", text, names)
		}
	}
}
