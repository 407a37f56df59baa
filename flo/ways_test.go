package flo_test

import (
	"go/ast"
	"go/parser"
	"go/token"
	"testing"
)

// functions are the package's functions by their names.
func functions(t *testing.T) map[string]*ast.FuncDecl {
	t.Helper()
	file, err := parser.ParseFile(token.NewFileSet(), "flo.go", nil, 0)
	if err != nil {
		t.Fatal(err)
	}
	found := map[string]*ast.FuncDecl{}
	for _, d := range file.Decls {
		if f, ok := d.(*ast.FuncDecl); ok {
			found[f.Name.Name] = f
		}
	}
	return found
}

// reached are the functions that the one of this name reaches, itself too.
func reached(all map[string]*ast.FuncDecl, name string) map[string]bool {
	seen := map[string]bool{}
	var visit func(name string)
	visit = func(name string) {
		if all[name] == nil || seen[name] {
			return
		}
		seen[name] = true
		ast.Inspect(all[name].Body, func(n ast.Node) bool {
			if id, ok := n.(*ast.Ident); ok {
				visit(id.Name)
			}
			return true
		})
	}
	visit(name)
	return seen
}

// holdsAgainstItself tells whether a function asks whether a variable is unlike itself.
func holdsAgainstItself(f *ast.FuncDecl) bool {
	found := false
	ast.Inspect(f.Body, func(n ast.Node) bool {
		if c, ok := n.(*ast.BinaryExpr); ok && c.Op == token.NEQ {
			x, left := c.X.(*ast.Ident)
			y, right := c.Y.(*ast.Ident)
			found = found || left && right && x.Name == y.Name
		}
		return true
	})
	return found
}

// Every face that must know a NaN tells it by its being unlike itself; Equal and Less have it by the language, and no int becomes one.
func TestNaNIsToldByBeingUnlikeItself(t *testing.T) {
	all := functions(t)
	for _, face := range []string{"Canon", "Add", "Sub", "Mul", "Div", "Neg", "Order", "Min", "Max", "ToInt", "Class"} {
		found := false
		for name := range reached(all, face) {
			found = found || holdsAgainstItself(all[name])
		}
		if !found {
			t.Errorf("%s doesn't reach it", face)
		}
	}
}
