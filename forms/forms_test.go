package forms

import (
	"reflect"
	"testing"

	"ridge/api"
	"ridge/programs"
)

const program = "args n\nblock\nset x 1\nif n 1 2\nblock\ncopy x n\ngoto 2\nblock\nsub n n x\nif n 0 3\nblock\nend x\nblock\nset y 1\ngoto 0"

// The form shares nothing with the program of which it is made.
func TestMakeLeavesTheProgram(t *testing.T) {
	p, _, _ := programs.Read(program)
	first := Make(&p)
	untouched, errno, _ := programs.Read(program)
	if errno != api.OK || !reflect.DeepEqual(p, untouched) {
		t.Errorf("the program has become %+v, was %+v", p, untouched)
	}
	if second := Make(&p); second.Text() != first.Text() {
		t.Errorf("first\n%s\nthen\n%s", first.Text(), second.Text())
	}
}

// What is made is read again as it was made, but for the places in the text.
func TestMadeAndRead(t *testing.T) {
	p, _, _ := programs.Read(program)
	made := Make(&p)
	read, errno, at := Read(made.Text())
	if errno != api.OK || at != 0 {
		t.Fatalf("%d, %d of\n%s", errno, at, made.Text())
	}
	for b := range read.Blocks {
		read.Blocks[b].First = 0
	}
	if !reflect.DeepEqual(read, made) {
		t.Errorf("read %+v, made %+v", read, made)
	}
}

// Beside an error there is no form.
func TestReadRefuses(t *testing.T) {
	for text, errno := range map[string]api.Errno{
		"":                                api.ErrForm,
		"args\nblock\ngoto 1":             api.ErrName,
		"args\nblock\nset x.0 1\nend x.0": api.ErrTwice,
		"args\nblock\nphi x.1\nend x.1":   api.ErrPhi,
		"args\nblock\nend x.1":            api.ErrUse,
		"args\nblock\nend x.0\nblock\nend x.0\nblock": api.ErrForm,
	} {
		if form, e, _ := Read(text); e != errno || form.Args != nil || form.Blocks != nil {
			t.Errorf("Read(%q) = %+v, %d, want %d", text, form, e, errno)
		}
	}
}
