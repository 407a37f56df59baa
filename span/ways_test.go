package span_test

import (
	"go/ast"
	"go/parser"
	"go/token"
	"testing"
)

// functions are the package's functions and methods by their names.
func functions(t *testing.T) map[string]*ast.FuncDecl {
	t.Helper()
	file, err := parser.ParseFile(token.NewFileSet(), "span.go", nil, 0)
	if err != nil {
		t.Fatal(err)
	}
	found := map[string]*ast.FuncDecl{}
	for _, d := range file.Decls {
		if f, ok := d.(*ast.FuncDecl); ok {
			found[f.Name.Name] = f
		}
	}
	return found
}

// comparesSpans tells whether something is a comparison with a span that is written out.
func comparesSpans(n ast.Node) bool {
	c, ok := n.(*ast.BinaryExpr)
	if !ok || c.Op != token.EQL && c.Op != token.NEQ {
		return false
	}
	_, ok = ast.Unparen(c.Y).(*ast.CompositeLit)
	return ok
}

// reaches tells whether something that holds is in the functions that the one of this name reaches, itself too.
func reaches(all map[string]*ast.FuncDecl, name string, holds func(n ast.Node) bool) bool {
	seen, found := map[string]bool{}, false
	var visit func(name string)
	visit = func(name string) {
		if all[name] == nil || seen[name] {
			return
		}
		seen[name] = true
		ast.Inspect(all[name], func(n ast.Node) bool {
			found = found || n != nil && holds(n)
			if id, ok := n.(*ast.Ident); ok {
				visit(id.Name)
			}
			return true
		})
	}
	visit(name)
	return found
}

func TestPlaceWithoutASpanIsToldByComparingStructs(t *testing.T) {
	all := functions(t)
	for _, face := range []string{"Free", "Find", "All"} {
		if !reaches(all, face, comparesSpans) {
			t.Errorf("%s doesn't reach it", face)
		}
	}
}

func TestLoopsRange(t *testing.T) {
	for name, f := range functions(t) {
		ast.Inspect(f, func(n ast.Node) bool {
			if _, ok := n.(*ast.ForStmt); ok {
				t.Errorf("%s counts by itself", name)
			}
			return true
		})
	}
}
