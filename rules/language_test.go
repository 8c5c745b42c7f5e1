package rules

import (
	"go/ast"
	"go/parser"
	"go/token"
	"path/filepath"
	"slices"
	"strings"
	"testing"
)

// permitted lists the packages of the library that the program may import.
var permitted = []string{"bytes", "cmp", "container/heap", "errors", "iter", "maps", "math", "math/bits", "slices", "sort", "strconv", "strings", "sync", "sync/atomic", "unicode", "unicode/utf8"}

// sources returns the files of the program, tests and package api aside.
func sources(t *testing.T) (*token.FileSet, map[string]*ast.File) {
	t.Helper()
	names, _ := filepath.Glob("../*/*.go")
	set, files := token.NewFileSet(), map[string]*ast.File{}
	for _, name := range names {
		folder := filepath.Base(filepath.Dir(name))
		if strings.HasSuffix(name, "_test.go") || folder == "api" || strings.HasPrefix(folder, "shared") {
			continue
		}
		f, err := parser.ParseFile(set, name, nil, parser.ParseComments)
		if err != nil {
			t.Fatal(err)
		}
		files[name] = f
	}
	if len(files) < 36 {
		t.Fatalf("only %d files", len(files))
	}
	return set, files
}

// Rules 1, 2, 3a and 9 of the language, as far as the text shows them.
func TestLanguage(t *testing.T) {
	set, files := sources(t)
	for name, f := range files {
		for _, i := range f.Imports {
			path := strings.Trim(i.Path.Value, `"`)
			if !strings.HasPrefix(path, "armature/") && !slices.Contains(permitted, path) {
				t.Errorf("%s imports %s", name, path)
			}
		}
		for _, group := range f.Comments {
			for _, c := range group.List {
				if strings.HasPrefix(c.Text, "//go:") || strings.HasPrefix(c.Text, "// +build") {
					t.Errorf("%s: %s", name, c.Text)
				}
			}
		}
		for _, d := range f.Decls {
			switch x := d.(type) {
			case *ast.FuncDecl:
				if lines := set.Position(x.End()).Line - set.Position(x.Pos()).Line + 1; lines > 60 || x.Name.Name == "init" {
					t.Errorf("%s: %s has %d lines", name, x.Name.Name, lines)
				}
			case *ast.GenDecl:
				checkVariables(t, name, x)
			}
		}
	}
}

// checkVariables checks that the variables of a package are tables and errors.
func checkVariables(t *testing.T, name string, d *ast.GenDecl) {
	t.Helper()
	if d.Tok != token.VAR {
		return
	}
	for _, s := range d.Specs {
		v, ok := s.(*ast.ValueSpec)
		if !ok || len(v.Values) != len(v.Names) {
			t.Errorf("%s: a variable without a value", name)
			continue
		}
		for i, value := range v.Values {
			switch x := value.(type) {
			case *ast.CompositeLit:
				if _, isMap := x.Type.(*ast.MapType); isMap {
					t.Errorf("%s: %s is a map", name, v.Names[i].Name)
				}
			case *ast.CallExpr:
				if f, ok := x.Fun.(*ast.SelectorExpr); !ok || f.Sel.Name != "New" {
					t.Errorf("%s: %s is computed", name, v.Names[i].Name)
				}
			default:
				t.Errorf("%s: %s is no table", name, v.Names[i].Name)
			}
		}
	}
}
