package script

import (
	"reflect"
	"slices"
	"strings"
	"testing"

	"armature/api"
	"armature/sample"
	"armature/session"
)

func equal(a, b []api.Command) bool {
	return slices.EqualFunc(a, b, func(x, y api.Command) bool {
		return x.Kind == y.Kind && x.Text == y.Text && slices.Equal(x.Nums, y.Nums)
	})
}

// P36.1: scripts without errors.
func TestParse(t *testing.T) {
	for _, x := range []struct {
		in   string
		want []api.Command
	}{
		{"", nil}, {"\n\n#\n# spec 1\n", nil}, {"scope 2 1", []api.Command{{Kind: 2, Nums: []int{2, 1}}}}, {"scope 2 1\n", []api.Command{{Kind: 2, Nums: []int{2, 1}}}}, {"run\n|some f", []api.Command{{Kind: 3, Text: "some f"}}},
		{"spec\ncheck\nnext\nrepair\ncore\nshow\nrun", []api.Command{{Kind: 1}, {Kind: 4}, {Kind: 5}, {Kind: 7}, {Kind: 8}, {Kind: 9}, {Kind: 3}}}, {"edit 1 -2 0 999999999\nscope 0", []api.Command{{Kind: 6, Nums: []int{1, -2, 0, 999999999}}, {Kind: 2, Nums: []int{0}}}},
		{"scope 1 2 3 4 5 6 7 -999999999", []api.Command{{Kind: 2, Nums: []int{1, 2, 3, 4, 5, 6, 7, -999999999}}}}, {"run\n|a\n\n# x\n||b \r\n|\n|#\nnext", []api.Command{{Kind: 3, Text: "a\n|b \r\n\n#"}, {Kind: 5}}}, {"run\n|", []api.Command{{Kind: 3}}}, {"run\n|\n|", []api.Command{{Kind: 3, Text: "\n"}}},
		{"# a\nspec\n|sort A;\xff\n", []api.Command{{Kind: 1, Text: "sort A;\xff"}}}, {strings.Repeat("next\n", 200), slices.Repeat([]api.Command{{Kind: 5}}, 200)},
	} {
		if got, e, at := Parse(x.in); e != api.OK || at != 0 || !equal(got, x.want) {
			t.Errorf("Parse(%.50q) = %v, %d, %d", x.in, got, e, at)
		}
	}
}

// P36.1, P36.5: the first line with an error.
func TestErrors(t *testing.T) {
	next := strings.Repeat("next\n", 200)
	for _, x := range []struct {
		in string
		e  api.Errno
		at int
	}{
		{"next 1", 340, 1}, {"# a\ngo", 360, 2}, {"nex", 360, 1}, {"next\t", 360, 1}, {" next", 360, 1}, {"Next", 360, 1}, {"next\r", 360, 1}, {" ", 360, 1}, {"next ", 340, 1}, {"spec sort A;", 340, 1}, {"scope", 340, 1}, {"scope ", 340, 1}, {"scope 1  2", 340, 1}, {"scope 1 ", 340, 1},
		{"scope 1 2 3 4 5 6 7 8 9", 340, 1}, {"edit 1 2 3", 340, 1}, {"edit 1 2 3 4 5", 340, 1}, {"scope 01", 340, 1}, {"scope -0", 340, 1}, {"scope +1", 340, 1}, {"scope --1", 340, 1}, {"scope -", 340, 1}, {"scope 1000000000", 340, 1}, {"scope -1000000000", 340, 1}, {"scope a", 340, 1}, {"scope 1\t2", 340, 1},
		{"scope 1_0", 340, 1}, {"scope 0x1", 340, 1}, {"scope 99999999999999999999", 340, 1}, {"|a", 340, 1}, {"next\n|a", 340, 2}, {"run\n|a\nnext\n\n#\n|", 340, 6}, {"run\n|a\n scope", 360, 3}, {next + "next", 2, 201}, {next + "#\n\nrun\n|x", 2, 203}, {next + "next 1", 340, 201}, {next + "go", 360, 201}, {next + "|x", 340, 201},
		{"go\nnext 1", 360, 1}, {"next 1\ngo", 340, 1}, {"run\x00", 360, 1}, {"scope 1\r", 340, 1}, {strings.Repeat("\n", 65536) + "go", 2, 0}, {strings.Repeat("\n", 65534) + "go", 360, 65535},
	} {
		l, e, at := Parse(x.in)
		if l != nil || e != x.e || at != x.at {
			t.Errorf("Parse(%.50q) = %v, %d, %d", x.in, l, e, at)
		}
		if at > 0 {
			before := strings.Join(strings.Split(x.in, "\n")[:at-1], "\n")
			if _, e, _ := Parse(before); e != api.OK {
				t.Errorf("the lines before the error of %.50q have the error %d", x.in, e)
			}
		}
	}
}

// P36.1: texts of commands.
func TestFormat(t *testing.T) {
	l := []api.Command{{Kind: 1, Text: "sort A;\n\n|x"}, {Kind: 2, Nums: []int{2, -1}}, {Kind: 3}, {Kind: 4, Text: "\n"}, {Kind: 5}, {Kind: 6, Nums: []int{1, 0, 0, 3}}, {Kind: 7}, {Kind: 8}, {Kind: 9}}
	want := "spec\n|sort A;\n|\n||x\nscope 2 -1\nrun\ncheck\n|\n|\nnext\nedit 1 0 0 3\nrepair\ncore\nshow\n"
	if got := Format(l); got != want {
		t.Errorf("%q", got)
	}
	if Format(nil) != "" {
		t.Error("no commands")
	}
}

// P36.1, P36.6: reports.
func TestRun(t *testing.T) {
	in := "spec\n|sort A;\n|field f: A;\nscope 2 1\nrun\n|one f\nshow\nnext\nrun\n|some g\ncheck\n|f = f\ncore\nedit 1 0 0 0\n"
	want := "1 0 1 1 0 0\n2 0\n3 0 1\n4 0\n|scope A=2 steps=1 loop=0\n|state 0\n|f = {A$1}\n|\n5 270\n6 40 5\n7 270\n8 0 0\n9 360\n"
	if got := Run(in); got != want {
		t.Errorf("%q", got)
	}
	for in, want := range map[string]string{"": "", "# a\n\n": "", "# a\ngo": "error 360 2\n", "next 1": "error 340 1\n", strings.Repeat("x", 65537): "error 2 0\n", "next": "1 360\n"} {
		if got := Run(in); got != want {
			t.Errorf("Run(%.20q) = %q", in, got)
		}
	}
	commands, _, _ := Parse(in)
	for i := range commands {
		if part := Run(Format(commands[:i])); !strings.HasPrefix(want, part) || len(part) >= len(want) {
			t.Errorf("the report of the first %d commands is no prefix: %q", i, part)
		}
	}
}

// random returns a well-formed command.
func random(s *sample.Source) api.Command {
	c := api.Command{Kind: s.Between(1, 9)}
	switch c.Kind {
	case api.CmdSpec, api.CmdRun, api.CmdCheck:
		for range s.Below(6) {
			c.Text += sample.Pick(s, []string{"a", "\n", "|", "#", " ", "some f", "\r", "\n\n", "\xff"})
		}
	case api.CmdScope:
		for range s.Between(1, 8) {
			c.Nums = append(c.Nums, s.Between(-12, 12))
		}
	case api.CmdEdit:
		c.Nums = []int{s.Between(-999999999, 999999999), s.Below(3), s.Below(3), -s.Below(3)}
	}
	return c
}

// P36.2, P36.3, P36.4 on sampled commands.
func TestRandom(t *testing.T) {
	s := sample.New(1)
	for range 2000 {
		var l []api.Command
		for range s.Below(8) {
			l = append(l, random(s))
		}
		text := Format(l)
		got, e, at := Parse(text)
		if e != api.OK || at != 0 || !equal(got, l) || !strings.HasSuffix("\n"+text, "\n") {
			t.Fatalf("%q: %v, %d, %d", text, got, e, at)
		}
		broken := spoil(s, text)
		got, e, at = Parse(broken)
		if e == api.OK {
			if again, e, _ := Parse(Format(got)); e != api.OK || !equal(again, got) {
				t.Fatalf("%q: %v", broken, again)
			}
		}
		checkConcatenation(t, text, broken, l, got, e, at)
		var b strings.Builder
		shifted := 0
		for i, line := range strings.SplitAfter(broken, "\n") {
			if s.Chance(40) {
				b.WriteString(sample.Pick(s, []string{"\n", "# go\n", "#\n"}))
				if i < at {
					shifted++
				}
			}
			b.WriteString(line)
		}
		more, d, where := Parse(b.String())
		if !equal(more, got) || d != e || e != api.OK && where != at+shifted {
			t.Fatalf("%q: %v, %d, %d", b.String(), more, d, where)
		}
	}
}

// spoil changes a line of a script.
func spoil(s *sample.Source, text string) string {
	lines := strings.Split(text, "\n")
	i := s.Below(len(lines))
	lines[i] = sample.Pick(s, []string{"go", "next 1", "run", "scope 1 2", "scope 01", lines[i], lines[i] + " "})
	return strings.Join(lines, "\n")
}

// checkConcatenation checks P36.3 for a script without an error and a second one that does not start with a text line.
func checkConcatenation(t *testing.T, first, second string, l, m []api.Command, e api.Errno, at int) {
	t.Helper()
	if strings.HasPrefix(strings.TrimLeft(second, "\n"), "|") {
		return
	}
	got, d, where := Parse(first + second)
	if e == api.OK && (d != api.OK || !equal(got, slices.Concat(l, m))) || e != api.OK && (d != e || where != at+strings.Count(first, "\n")) {
		t.Fatalf("%q and %q: %v, %d, %d", first, second, got, d, where)
	}
	if strings.HasSuffix(second, "\n") && e != api.OK {
		if _, d, where := Parse(second + first); d != e || where != at {
			t.Fatalf("%q and %q: %d, %d", second, first, d, where)
		}
	}
}

// T9: a script behaves like the single commands.
func TestSession(t *testing.T) {
	s := sample.New(2)
	for range 100 {
		l := []api.Command{{Kind: api.CmdSpec, Text: "sort A; field f: A;\nfact a { some A }"}, {Kind: api.CmdScope, Nums: []int{2, 1}}}
		for range s.Below(8) {
			c := random(s)
			if c.Kind == api.CmdRun || c.Kind == api.CmdCheck {
				c.Text = sample.Pick(s, []string{"some f", "no f", "one\nf", "false", "("})
			}
			l = append(l, c)
		}
		run := session.New()
		var b strings.Builder
		for i, c := range l {
			a := run.Do(c)
			w := &writer{}
			w.line(string(rune('0'+(i+1)/10))+string(rune('0'+(i+1)%10)), append([]int{int(a.Err)}, a.Nums...)...)
			w.text(a.Text)
			b.WriteString(strings.TrimPrefix(w.String(), "0"))
		}
		if got := Run(Format(l)); got != b.String() {
			t.Fatalf("%v: %q, not %q", l, got, b.String())
		}
	}
	if _, e, at := Parse("run\n|x"); e != api.OK || at != 0 || !reflect.DeepEqual(table[0], syntax{kind: 1, word: "spec", text: true}) {
		t.Error(e, at)
	}
}
