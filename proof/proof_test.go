package proof

import (
	"slices"
	"strings"
	"testing"

	"armature/api"
	"armature/sample"
)

func learn(lits ...int) api.Step  { return api.Step{Kind: api.StepLearn, Lits: lits} }
func remove(lits ...int) api.Step { return api.Step{Kind: api.StepDelete, Lits: lits} }
func define(lits ...int) api.Step { return api.Step{Kind: api.StepDefine, Lits: lits} }
func symmetry(sym int, lits ...int) api.Step {
	return api.Step{Kind: api.StepSymmetry, Lits: lits, Sym: sym}
}

// P22.1: well-formed proofs, and each way of being malformed.
func TestValid(t *testing.T) {
	for i, x := range []struct {
		vars int
		l    []api.Step
		want bool
	}{
		{0, nil, true}, {20000, nil, true}, {-1, nil, false}, {20001, nil, false}, {0, []api.Step{learn(), remove(), symmetry(0)}, true}, {2, []api.Step{learn(1, -2, 1), remove(2, -2), symmetry(20000, -1)}, true},
		{2, []api.Step{learn(3)}, false}, {2, []api.Step{remove(-3)}, false}, {2, []api.Step{symmetry(0, 0)}, false}, {2, []api.Step{learn(1, 0)}, false}, {2, []api.Step{learn(-1 << 63)}, false}, {2, []api.Step{symmetry(-1, 1)}, false},
		{2, []api.Step{symmetry(20001, 1)}, false}, {2, []api.Step{{Kind: api.StepLearn, Sym: 1}}, false}, {2, []api.Step{{Kind: api.StepDelete, Sym: -1}}, false}, {2, []api.Step{{Kind: api.StepDefine, Lits: []int{3, 1}, Sym: 1}}, false},
		{2, []api.Step{{}}, false}, {2, []api.Step{{Kind: 5}}, false}, {2, []api.Step{define(3, 1)}, true}, {2, []api.Step{define(3, -1, 2, 2), define(4, -3), learn(4, -3)}, true}, {2, []api.Step{define(3)}, false}, {2, []api.Step{define()}, false},
		{2, []api.Step{define(4, 1)}, false}, {2, []api.Step{define(2, 1)}, false}, {2, []api.Step{define(-3, 1)}, false}, {2, []api.Step{define(3, 3)}, false}, {2, []api.Step{define(3, 1, 0)}, false}, {2, []api.Step{learn(3), define(3, 1)}, false},
		{20000, []api.Step{define(20001, 1)}, false}, {19999, []api.Step{define(20000, 1)}, true}, {0, make([]api.Step, 1), false},
	} {
		if got := Valid(x.vars, x.l); got != x.want {
			t.Errorf("case %d: %t", i, got)
		}
	}
	long := make([]api.Step, api.MaxProof+1)
	for i := range long {
		long[i] = learn()
	}
	if Valid(0, long) || !Valid(0, long[1:]) {
		t.Error("the limit of the number of steps")
	}
}

// P22.1: texts of steps.
func TestEncode(t *testing.T) {
	l := []api.Step{learn(1, -2), define(3, 1, 2), symmetry(1, -1, 3), remove(), symmetry(0), learn(-20000)}
	want := "l 1 -2 0\ne 3 1 2 0\ns 1 -1 3 0\nd 0\ns 0 0\nl -20000 0\n"
	if got := Encode(l); got != want {
		t.Errorf("%q", got)
	}
	if got, e := Decode(want); e != api.OK || !Equal(got, l) {
		t.Error(got, e)
	}
	if Encode(nil) != "" {
		t.Error("no steps")
	}
}

// P22.1: texts that are not those of steps.
func TestDecodeErrors(t *testing.T) {
	for _, text := range []string{"\n", "l", "l 0", "l\n", "l 1\n", "l  1 0\n", "l 1  0\n", "l 1 0 \n", "l 1 0\n\n", " l 1 0\n", "l 1 0\r\n", "x 1 0\n", "L 1 0\n", "l 01 0\n", "l -0 0\n", "l 00\n", "l 1 -0\n", "l + 0\n", "l - 0\n", "l +1 0\n",
		"l 1 0 0\n", "l 1 0 2 0\n", "l 1000000000 0\n", "l -1000000000 0\n", "s 0\n", "s\n", "s 1\n", "s 01 0\n", "s 1000000000 0\n", "s x 0\n", "ll 0\n", "l1 0\n", "l 1 0\nl", "l 1 0\nl 1", "l\t1 0\n", "l 1 0l 2 0\n", "l 0x1 0\n", "\x00 0\n", "l 18446744073709551617 0\n"} {
		if l, e := Decode(text); l != nil || e != api.ErrFormat {
			t.Errorf("Decode(%q) = %v, %d", text, l, e)
		}
	}
	for text, want := range map[string]api.Step{"l 999999999 0\n": learn(999999999), "s -7 -1 0\n": symmetry(-7, -1), "s 0 0\n": symmetry(0), "d 0\n": remove()} {
		if l, e := Decode(text); e != api.OK || !Equal(l, []api.Step{want}) {
			t.Errorf("Decode(%q) = %v, %d", text, l, e)
		}
	}
	if l, e := Decode(""); len(l) != 0 || e != api.OK {
		t.Error("the empty text")
	}
	if l, e := Decode(strings.Repeat("x", 2000001)); l != nil || e != api.ErrLimit {
		t.Errorf("2000001 bytes: %d", e)
	}
	if l, e := Decode(strings.Repeat("l 0\n", 500000)); len(l) != 500000 || e != api.OK {
		t.Errorf("2000000 bytes: %d", e)
	}
}

// P22.1: shifting and comparing.
func TestShift(t *testing.T) {
	l := []api.Step{learn(1, -2), symmetry(4, 3), {Kind: 9}}
	got := Shift(l, 10)
	if !Equal(got, []api.Step{learn(11, -12), symmetry(4, 13), {Kind: 9}}) || !Equal(Shift(got, -10), l) {
		t.Error(got)
	}
	got[0].Lits[0] = 7
	if l[0].Lits[0] != 1 || len(Shift(nil, 3)) != 0 {
		t.Error("Shift shares memory")
	}
	if Equal(l, l[:2]) || Equal([]api.Step{learn(1)}, []api.Step{remove(1)}) || Equal([]api.Step{symmetry(1)}, []api.Step{symmetry(2)}) || Equal([]api.Step{learn(1, 2)}, []api.Step{learn(2, 1)}) || !Equal(nil, []api.Step{}) {
		t.Error("Equal")
	}
}

// random returns a well-formed proof over four variables.
func random(s *sample.Source, definitions bool) []api.Step {
	var l []api.Step
	known := 4
	for range s.Below(8) {
		lits := s.Clause(known, 3)
		switch s.Below(4) {
		case 0:
			l = append(l, learn(lits...))
		case 1:
			l = append(l, remove(lits...))
		case 2:
			l = append(l, symmetry(s.Below(3), lits...))
		case 3:
			if definitions {
				known++
				l = append(l, define(append([]int{known}, lits...)...))
			}
		}
	}
	return l
}

// P22.2 to P22.5 on sampled proofs.
func TestRandom(t *testing.T) {
	s := sample.New(1)
	for range 1000 {
		l := random(s, true)
		text := Encode(l)
		got, e := Decode(text)
		if !Valid(4, l) || e != api.OK || !Equal(got, l) {
			t.Fatalf("%v: %q", l, text)
		}
		k := s.Below(len(l) + 1)
		if !Valid(4, l[:k]) || Encode(l[:k])+Encode(l[k:]) != text {
			t.Fatalf("%v: prefix %d", l, k)
		}
		checkCorruption(t, s, text)
		simple := random(s, false)
		by := s.Below(5)
		if !Valid(4+by, simple) || !Valid(4+by, Shift(simple, by)) || !Equal(Shift(Shift(simple, by), -by), simple) {
			t.Fatalf("%v: shift by %d", simple, by)
		}
	}
}

// checkCorruption checks P22.3, and that a changed text is not decoded to a text that differs from it.
func checkCorruption(t *testing.T, s *sample.Source, text string) {
	t.Helper()
	for i := range len(text) {
		bad := ""
		switch text[i] {
		case '\n':
			bad = text[:i] + text[i+1:]
		case ' ':
			bad = text[:i] + " " + text[i:]
		}
		if bad != "" {
			if _, e := Decode(bad); e != api.ErrFormat {
				t.Fatalf("Decode(%q): %d", bad, e)
			}
		}
	}
	if text == "" {
		return
	}
	b := []byte(text)
	b[s.Below(len(b))] = "ldes 0123-\n"[s.Below(11)]
	if l, e := Decode(string(b)); e == api.OK && Encode(l) != string(b) || e == api.OK && slices.ContainsFunc(l, func(x api.Step) bool { return slices.Contains(x.Lits, 0) }) {
		t.Fatalf("Decode(%q) = %v", b, l)
	}
}
