package forms

import (
	"testing"

	"ridge/api"
	"ridge/programs"
)

// after tells what one step of tidying makes of a form.
func after(t *testing.T, step func(*programs.Program), text string) string {
	t.Helper()
	form, errno, at := Read(text)
	if errno != api.OK {
		t.Fatalf("Read(%q): %d, %d", text, errno, at)
	}
	step(&form)
	return form.Text()
}

// Each step does its own part of tidying, whatever the others would do.
func TestSteps(t *testing.T) {
	ifs := func(form *programs.Program) { settle(form) }
	for _, c := range []struct {
		name       string
		step       func(*programs.Program)
		text, want string
	}{
		{"settle", ifs, "args\nblock\nset c.1 0\nif c.1 0 1\nblock\nend c.1", "args\nblock\nset c.1 0\ngoto 1\nblock\nend c.1"},
		{"settle", ifs, "args\nblock\ngoto 1\nblock\nphi y.1 0:x.0 1:y.1\nif y.1 0 1", "args\nblock\ngoto 1\nblock\nphi y.1 0:x.0 1:y.1\nif y.1 0 1"},
		{"dropAway", dropAway, "args\nblock\ngoto 2\nblock\ngoto 2\nblock\nphi y.1 0:x.0 1:z.9\nend x.0", "args\nblock\ngoto 1\nblock\nphi y.1 0:x.0\nend x.0"},
		{"dropAway", dropAway, "args\nblock\nset c.1 0\nif c.1 0 1\nblock\nend x.0", "args\nblock\nset c.1 0\nif c.1 0 1\nblock\nend x.0"},
		{"dropIdlePhis", dropIdlePhis, "args x.0\nblock\ngoto 1\nblock\nphi y.1 0:x.0 1:y.1\nphi z.1 0:y.0 1:y.1\nadd z.2 z.1 y.1\nif y.1 1 1", "args x.0\nblock\ngoto 1\nblock\nphi z.1 0:y.0 1:x.0\nadd z.2 z.1 x.0\nif x.0 1 1"},
		{"dropNeedless", dropNeedless, "args\nblock\nset a.1 1\ngoto 1\nblock\nphi b.1 0:a.1\nphi c.1 0:a.1\nset d.1 2\ncopy e.1 d.1\nend b.1", "args\nblock\nset a.1 1\ngoto 1\nblock\nphi b.1 0:a.1\nend b.1"},
	} {
		if text := after(t, c.step, c.text); text != c.want {
			t.Errorf("%s of\n%s\nmakes\n%s\nnot\n%s", c.name, c.text, text, c.want)
		}
	}
}

// Settle tells whether it did anything: else tidying would not end, or would end too soon.
func TestSettleTells(t *testing.T) {
	form, _, _ := Read("args x.0\nblock\nif y.0 0 1\nblock\nif x.0 0 1")
	if !settle(&form) || settle(&form) {
		t.Errorf("settle tells the wrong thing of\n%s", form.Text())
	}
}
