package rules

import (
	"math/rand"
	"reflect"
	"testing"

	"armature/api"
	"armature/enumerate"
	"armature/grow"
	"armature/session"
	"armature/solver"
)

// arbitrary returns a value of a type that need not make sense; depth bounds its nesting.
func arbitrary(r *rand.Rand, t reflect.Type, depth int) reflect.Value {
	v := reflect.New(t).Elem()
	switch t.Kind() {
	case reflect.Int:
		numbers := []int64{-3, -1, 0, 0, 0, 1, 1, 1, 2, 2, 2, 3, 3, 4, 5, 6, 12, 13, 30}
		v.SetInt(numbers[r.Intn(len(numbers))])
	case reflect.Bool:
		v.SetBool(r.Intn(2) == 0)
	case reflect.String:
		texts := []string{"", "a", "A", "f", "x", "some f", "A$0", "sort A; field f: A;", "run\n|some f", "in", "A_first", "A_next", "l 1 0\n"}
		v.SetString(texts[r.Intn(len(texts))])
	case reflect.Slice:
		n := r.Intn(4)
		if depth > 3 {
			n = 0
		}
		v.Set(reflect.MakeSlice(t, n, n))
		for i := range n {
			v.Index(i).Set(arbitrary(r, t.Elem(), depth+1))
		}
	case reflect.Struct:
		if t == reflect.TypeFor[api.Node]() {
			depth++
		}
		for i := range t.NumField() {
			v.Field(i).Set(arbitrary(r, t.Field(i).Type, depth))
		}
		likely(r, v)
	}
	return v
}

// likely gives some structs values that make more sense.
func likely(r *rand.Rand, v reflect.Value) {
	switch v.Type() {
	case reflect.TypeFor[api.Node]():
		v.Field(0).SetInt(int64([]int{1, 1, 2, 3, 4, 5, 6, 7, 8, 9, 10, 11, 12, 13, 14, 15, 20, 21, 22, 23, 30 + r.Intn(22), 30 + r.Intn(22), 99}[r.Intn(23)]))
	case reflect.TypeFor[api.Rel]():
		v.Field(0).SetInt(int64(r.Intn(4)))
	case reflect.TypeFor[api.Scope]():
		v.Field(1).SetInt(int64(r.Intn(4)))
	}
}

// Rule 4 of the language: no function panics, whatever its arguments are.
func TestArbitraryArguments(t *testing.T) {
	r := rand.New(rand.NewSource(1))
	for _, f := range functions() {
		call := reflect.ValueOf(f.call)
		for range 400 {
			var args []reflect.Value
			for i := range call.Type().NumIn() {
				args = append(args, arbitrary(r, call.Type().In(i), 0))
			}
			func() {
				defer func() {
					if x := recover(); x != nil {
						t.Errorf("%s panics: %v", f.name, x)
					}
				}()
				call.Call(args)
			}()
		}
	}
}

// Rule 4 of the language for methods, also of values that New did not return.
func TestArbitraryMethods(t *testing.T) {
	r := rand.New(rand.NewSource(2))
	for range 300 {
		receivers := []any{solver.New(r.Intn(6) - 1), session.New(), (*solver.Solver)(nil), (*enumerate.Finder)(nil), (*grow.Search)(nil), (*session.Session)(nil)}
		if f, e := enumerate.New(api.Spec{}, api.Scope{Steps: 2}, nil, api.Node{Op: api.OpTrue}); e == api.OK {
			receivers = append(receivers, f)
		}
		if s, e := grow.New(api.Spec{Sorts: []api.Sort{{Name: "A"}}}, api.Node{Op: api.OpTrue}); e == api.OK {
			receivers = append(receivers, s)
		}
		for _, x := range receivers {
			v := reflect.ValueOf(x)
			for range 8 {
				m := v.Method(r.Intn(v.NumMethod()))
				var args []reflect.Value
				for i := range m.Type().NumIn() {
					args = append(args, arbitrary(r, m.Type().In(i), 0))
				}
				m.Call(args)
			}
		}
	}
}

// Deep trees do not make the functions fail that take any trees.
func TestDeepTrees(t *testing.T) {
	n := api.Node{Op: api.OpTrue}
	for range 60000 {
		n = api.Node{Op: api.OpNot, Kids: []api.Node{n}}
	}
	for _, f := range functions() {
		call := reflect.ValueOf(f.call)
		var args []reflect.Value
		takesTree := false
		for i := range call.Type().NumIn() {
			if call.Type().In(i) == reflect.TypeFor[api.Node]() {
				takesTree = true
				args = append(args, reflect.ValueOf(n))
			} else {
				args = append(args, reflect.Zero(call.Type().In(i)))
			}
		}
		if takesTree {
			call.Call(args)
		}
	}
}
