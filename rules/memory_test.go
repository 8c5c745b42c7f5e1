package rules

import (
	"fmt"
	"reflect"
	"strings"
	"testing"

	"armature/api"
	"armature/lasso"
	"armature/permute"
	"armature/refine"
	"armature/sample"
	"armature/symbreak"
	"armature/universe"
)

// span is the memory of a slice.
type span struct {
	from, to uintptr
	what     string
}

// spans appends the memory of all slices in a value.
func spans(v reflect.Value, what string, out []span) []span {
	switch v.Kind() {
	case reflect.Slice:
		if v.Len() == 0 {
			return out
		}
		out = append(out, span{v.Pointer(), v.Pointer() + uintptr(v.Len())*v.Type().Elem().Size(), what})
		if k := v.Type().Elem().Kind(); k == reflect.Slice || k == reflect.Struct {
			for i := range v.Len() {
				out = spans(v.Index(i), fmt.Sprintf("%s[%d]", what, i), out)
			}
		}
	case reflect.Struct:
		for i := range v.NumField() {
			out = spans(v.Field(i), what+"."+v.Type().Field(i).Name, out)
		}
	}
	return out
}

// setting is what the arguments of a round of calls are taken from.
type setting struct {
	*sample.Source
	sp    api.Spec
	sc    api.Scope
	b     []api.Bound
	m     api.Model
	c     api.Circuit
	f     api.CNF
	group [][]int
}

func newSetting(s *sample.Source) *setting {
	sp := s.Spec(sample.Size{Sorts: 2, Fields: 2, Arity: 2, Preds: 1, Facts: 1, Levels: 2, Temporal: true})
	sc := s.Scope(sp, 2, 2)
	b := s.Bounds(sp, sc, 6)
	return &setting{s, sp, sc, b, s.Model(sp, sc, b), s.Circuit(4, 6), s.Clauses(4, 6, 3), refine.Group(sp, sc, b)}
}

// argument returns an argument for a parameter of a function.
func (x *setting) argument(name string, i int, t reflect.Type) any {
	layer, _, _ := strings.Cut(name, ".")
	n := universe.Atoms(x.sc)
	switch t {
	case reflect.TypeFor[api.Spec]():
		return x.sp
	case reflect.TypeFor[api.Scope]():
		return x.sc
	case reflect.TypeFor[[]api.Bound]():
		return x.b
	case reflect.TypeFor[api.Model]():
		return x.m
	case reflect.TypeFor[api.Circuit]():
		return x.c
	case reflect.TypeFor[api.CNF]():
		return x.f
	case reflect.TypeFor[[][]int]():
		return x.group
	case reflect.TypeFor[[]bool]():
		return x.Values(6)
	case reflect.TypeFor[api.Node]():
		if strings.HasSuffix(name, ".Expr") || name == "narrow.Upper" || name == "typing.Type" {
			return x.Relation(x.sp, nil, 1, 3, true)
		}
		return x.Formula(x.sp, nil, 3, true)
	case reflect.TypeFor[[]api.Node]():
		return []api.Node{x.Formula(x.sp, nil, 2, true), x.Formula(x.sp, nil, 2, true)}
	case reflect.TypeFor[api.Matrix]():
		return x.Matrix(x.c, n, 2, x.Chance(30))
	case reflect.TypeFor[api.Rel]():
		r := api.Rel{Arity: 2}
		for _, cell := range x.Matrix(x.c, n, 2, false).Cells {
			r.Tuples = append(r.Tuples, cell.Rank)
		}
		return r
	case reflect.TypeFor[[][]api.Matrix]():
		_, states := lasso.States(x.sp, x.sc, x.b, x.c)
		return states
	case reflect.TypeFor[[]int]():
		return x.numbers(name, layer, i)
	case reflect.TypeFor[string]():
		return map[string]string{"script": "scope 1 2\nrun\n|x", "proof": "l 1 2 0\n"}[layer] + map[bool]string{true: "sort A; field f: A;"}[layer == "parser" || layer == "lexer"]
	case reflect.TypeFor[int]():
		if layer == "matrix" || layer == "closure" || layer == "relation" {
			return n
		}
		return 1 - i%2
	case reflect.TypeFor[[]api.Param]():
		return []api.Param{{Name: "x"}}
	case reflect.TypeFor[[]api.Binding]():
		return []api.Binding{{Name: "x"}}
	case reflect.TypeFor[[]api.Step]():
		return []api.Step{{Kind: api.StepLearn, Lits: []int{1, -1}}, {Kind: api.StepDelete, Lits: []int{1, -1}}}
	case reflect.TypeFor[[]api.Command]():
		return []api.Command{{Kind: api.CmdScope, Nums: []int{1, 2}}}
	}
	return reflect.Zero(t).Interface()
}

// numbers returns a list of numbers that suits a function.
func (x *setting) numbers(name, layer string, i int) []int {
	switch {
	case name == "symbreak.Predicate":
		perm := symbreak.Literals(x.sp, x.sc, x.b, sample.Pick(x.Source, x.group))
		for v := range perm {
			if i > 1 {
				perm[v] = v + 1
			}
		}
		return perm
	case layer == "permute" || layer == "refine" || layer == "symbreak":
		return sample.Pick(x.Source, permute.All(x.sc))
	case layer == "count":
		return []int{2, 4, 6}
	case layer == "universe" || layer == "project":
		return []int{0, 0}
	}
	return []int{1, -2}
}

// Rule 7 of the language: results are new memory, and arguments are not modified.
func TestMemory(t *testing.T) {
	s := sample.New(7)
	for range 60 {
		x := newSetting(s)
		for _, f := range functions() {
			call := reflect.ValueOf(f.call)
			var args []reflect.Value
			var in, out []span
			var before []string
			for i := range call.Type().NumIn() {
				a := reflect.ValueOf(x.argument(f.name, i, call.Type().In(i)))
				args = append(args, a)
				in = spans(a, fmt.Sprint("argument ", i), in)
				before = append(before, fmt.Sprintf("%v", a))
			}
			for i, result := range call.Call(args) {
				out = spans(result, fmt.Sprint("result ", i), out)
			}
			for i, a := range args {
				if fmt.Sprintf("%v", a) != before[i] {
					t.Fatalf("%s modifies argument %d", f.name, i)
				}
			}
			for i, y := range out {
				for _, z := range append(in, out[:i]...) {
					if y.from < z.to && z.from < y.to {
						t.Fatalf("%s: %s shares memory with %s", f.name, y.what, z.what)
					}
				}
			}
		}
	}
}
