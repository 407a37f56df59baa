package ideal_test

import (
	"go/ast"
	"go/parser"
	"go/token"
	"path/filepath"
	"strings"
	"testing"
)

// functions are the package's functions and methods by their names.
func functions(t *testing.T) map[string]*ast.FuncDecl {
	t.Helper()
	names, err := filepath.Glob("*.go")
	if err != nil {
		t.Fatal(err)
	}
	found := map[string]*ast.FuncDecl{}
	for _, name := range names {
		if strings.HasSuffix(name, "_test.go") {
			continue
		}
		file, err := parser.ParseFile(token.NewFileSet(), name, nil, 0)
		if err != nil {
			t.Fatal(err)
		}
		for _, d := range file.Decls {
			if f, ok := d.(*ast.FuncDecl); ok {
				found[f.Name.Name] = f
			}
		}
	}
	return found
}

// reached are the functions that the one of this name reaches, by their names; itself, too.
func reached(all map[string]*ast.FuncDecl, name string) map[string]*ast.FuncDecl {
	found := map[string]*ast.FuncDecl{}
	var visit func(name string)
	visit = func(name string) {
		if all[name] == nil || found[name] != nil {
			return
		}
		found[name] = all[name]
		ast.Inspect(all[name], func(n ast.Node) bool {
			if id, ok := n.(*ast.Ident); ok {
				visit(id.Name)
			}
			return true
		})
	}
	visit(name)
	return found
}

// closures are the names to which a function gives closures.
func closures(f *ast.FuncDecl) map[string]int {
	names := map[string]int{}
	ast.Inspect(f, func(n ast.Node) bool {
		a, ok := n.(*ast.AssignStmt)
		if !ok {
			return true
		}
		for i, right := range a.Rhs {
			_, is := right.(*ast.FuncLit)
			if id, named := a.Lhs[i].(*ast.Ident); is && named {
				names[id.Name]++
			}
		}
		return true
	})
	return names
}

// handsOn tells whether a function hands one of these names on, as an argument.
func handsOn(f *ast.FuncDecl, names map[string]int) bool {
	found := false
	ast.Inspect(f, func(n ast.Node) bool {
		c, ok := n.(*ast.CallExpr)
		if !ok {
			return true
		}
		for _, argument := range c.Args {
			id, is := argument.(*ast.Ident)
			found = found || is && names[id.Name] > 0
		}
		return true
	})
	return found
}

func TestTheWalkIsToldWhatIsFoundByAClosure(t *testing.T) {
	for _, f := range reached(functions(t), "Reach") {
		if handsOn(f, closures(f)) {
			return
		}
	}
	t.Error("Reach reaches no function that hands a closure on")
}
