package pages_test

import (
	"go/ast"
	"go/parser"
	"go/token"
	"testing"
)

// functions are the package's functions and methods by their names.
func functions(t *testing.T) map[string]*ast.FuncDecl {
	t.Helper()
	file, err := parser.ParseFile(token.NewFileSet(), "pages.go", nil, 0)
	if err != nil {
		t.Fatal(err)
	}
	found := map[string]*ast.FuncDecl{}
	for _, d := range file.Decls {
		if f, ok := d.(*ast.FuncDecl); ok {
			found[f.Name.Name] = f
		}
	}
	return found
}

// rangesOver tells whether a function ranges over something that holds.
func rangesOver(f *ast.FuncDecl, holds func(x ast.Expr) bool) bool {
	found := false
	ast.Inspect(f, func(n ast.Node) bool {
		if r, ok := n.(*ast.RangeStmt); ok {
			found = found || holds(r.X)
		}
		return true
	})
	return found
}

// isRuns tells whether an expression is a call of Runs.
func isRuns(x ast.Expr) bool {
	c, ok := x.(*ast.CallExpr)
	if !ok {
		return false
	}
	s, ok := c.Fun.(*ast.SelectorExpr)
	return ok && s.Sel.Name == "Runs"
}

// isNumber tells whether an expression is the number n of pages, or a sum.
func isNumber(x ast.Expr) bool {
	id, named := x.(*ast.Ident)
	sum, added := x.(*ast.BinaryExpr)
	return named && id.Name == "n" || added && sum.Op == token.ADD
}

func TestRowsAreGivenByAnIterator(t *testing.T) {
	all := functions(t)
	for _, face := range []string{"Alloc", "Counts"} {
		if !rangesOver(all[face], isRuns) {
			t.Errorf("%s doesn't range over Runs", face)
		}
	}
}

func TestOtherLoopsRangeOverANumber(t *testing.T) {
	loops := 0
	for name, f := range functions(t) {
		ast.Inspect(f, func(n ast.Node) bool {
			if _, ok := n.(*ast.ForStmt); ok {
				t.Errorf("%s counts by itself", name)
			}
			return true
		})
		if rangesOver(f, isNumber) {
			loops++
		}
	}
	if loops == 0 {
		t.Error("no loop ranges over a number")
	}
}
