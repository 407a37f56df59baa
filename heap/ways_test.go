package heap_test

import (
	"go/ast"
	"go/parser"
	"go/token"
	"path/filepath"
	"strings"
	"testing"
)

// files are the package's texts.
func files(t *testing.T) []*ast.File {
	t.Helper()
	names, err := filepath.Glob("*.go")
	if err != nil {
		t.Fatal(err)
	}
	var list []*ast.File
	for _, name := range names {
		if strings.HasSuffix(name, "_test.go") {
			continue
		}
		file, err := parser.ParseFile(token.NewFileSet(), name, nil, 0)
		if err != nil {
			t.Fatal(err)
		}
		list = append(list, file)
	}
	return list
}

// field is the type of a field of the package's struct of this name; nil: there is none.
func field(t *testing.T, of, name string) ast.Expr {
	t.Helper()
	var found ast.Expr
	for _, file := range files(t) {
		ast.Inspect(file, func(n ast.Node) bool {
			s, ok := n.(*ast.TypeSpec)
			if !ok || s.Name.Name != of {
				return true
			}
			for _, f := range s.Type.(*ast.StructType).Fields.List {
				for _, id := range f.Names {
					if id.Name == name {
						found = f.Type
					}
				}
			}
			return false
		})
	}
	return found
}

// reaches tells whether something that holds is in the functions that the one of this name reaches, itself too.
func reaches(t *testing.T, name string, holds func(n ast.Node) bool) bool {
	t.Helper()
	all := map[string]*ast.FuncDecl{}
	for _, file := range files(t) {
		for _, d := range file.Decls {
			if f, ok := d.(*ast.FuncDecl); ok {
				all[f.Name.Name] = f
			}
		}
	}
	seen, found := map[string]bool{}, false
	var visit func(name string)
	visit = func(name string) {
		if all[name] == nil || seen[name] {
			return
		}
		seen[name] = true
		ast.Inspect(all[name], func(n ast.Node) bool {
			found = found || n != nil && holds(n)
			if id, ok := n.(*ast.Ident); ok {
				visit(id.Name)
			}
			return true
		})
	}
	visit(name)
	return found
}

// isFunction tells whether a type is that of functions that give numbers.
func isFunction(e ast.Expr) bool {
	x, ok := e.(*ast.IndexExpr)
	if !ok {
		return false
	}
	s, ok := x.X.(*ast.SelectorExpr)
	return ok && s.Sel.Name == "Seq"
}

// ranges tells whether a loop ranges over the name that is told.
func ranges(name string) func(n ast.Node) bool {
	return func(n ast.Node) bool {
		r, ok := n.(*ast.RangeStmt)
		if !ok {
			return false
		}
		id, ok := r.X.(*ast.Ident)
		return ok && id.Name == name
	}
}

// names tells whether x.name is named, whatever x is.
func names(name string) func(n ast.Node) bool {
	return func(n ast.Node) bool {
		s, ok := n.(*ast.SelectorExpr)
		return ok && s.Sel.Name == name
	}
}

func TestWhatElseLeadsToObjectsIsToldByFunctionsInFields(t *testing.T) {
	for _, x := range [][2]string{{"Heap", "more"}, {"object", "refs"}} {
		if !isFunction(field(t, x[0], x[1])) {
			t.Errorf("%s.%s is no function", x[0], x[1])
		}
	}
	for _, face := range []string{"Start", "Work", "Full", "Alloc"} {
		if !reaches(t, face, ranges("seq")) {
			t.Errorf("%s reaches no loop over a function", face)
		}
	}
}

func TestTheObjectsAreKeptInAMapThatIsRangedOverAndSorted(t *testing.T) {
	if _, ok := field(t, "Heap", "objects").(*ast.MapType); !ok {
		t.Error("the objects are in no map")
	}
	for _, face := range []string{"Start", "Full", "Alloc"} {
		for what, holds := range map[string]func(n ast.Node) bool{"loop over a map": ranges("m"), "sorting": names("Sort"), "map of objects": names("objects")} {
			if !reaches(t, face, holds) {
				t.Errorf("%s reaches no %s", face, what)
			}
		}
	}
}
