package machine_test

import (
	"go/ast"
	"go/parser"
	"go/token"
	"path/filepath"
	"strings"
	"testing"
)

// functions are the package's functions and methods by their names.
func functions(t *testing.T) map[string]*ast.FuncDecl {
	t.Helper()
	names, err := filepath.Glob("*.go")
	if err != nil {
		t.Fatal(err)
	}
	found := map[string]*ast.FuncDecl{}
	for _, name := range names {
		if strings.HasSuffix(name, "_test.go") {
			continue
		}
		file, err := parser.ParseFile(token.NewFileSet(), name, nil, 0)
		if err != nil {
			t.Fatal(err)
		}
		for _, d := range file.Decls {
			if f, ok := d.(*ast.FuncDecl); ok {
				found[f.Name.Name] = f
			}
		}
	}
	return found
}

// reaches tells whether something that holds is in the functions that the one of this name reaches, itself too.
func reaches(t *testing.T, name string, holds func(n ast.Node) bool) bool {
	t.Helper()
	all := functions(t)
	seen, found := map[string]bool{}, false
	var visit func(name string)
	visit = func(name string) {
		if all[name] == nil || seen[name] {
			return
		}
		seen[name] = true
		ast.Inspect(all[name], func(n ast.Node) bool {
			found = found || n != nil && holds(n)
			if id, ok := n.(*ast.Ident); ok {
				visit(id.Name)
			}
			return true
		})
	}
	visit(name)
	return found
}

// calls tells whether a node is a call of a function that is built in.
func calls(name string) func(n ast.Node) bool {
	return func(n ast.Node) bool {
		c, ok := n.(*ast.CallExpr)
		if !ok {
			return false
		}
		id, ok := c.Fun.(*ast.Ident)
		return ok && id.Name == name
	}
}

func TestTheHeapIsGivenAMethodOfTheMachine(t *testing.T) {
	all := functions(t)
	gives := func(n ast.Node) bool {
		c, ok := n.(*ast.CallExpr)
		if !ok || len(c.Args) != 1 {
			return false
		}
		f, ok := c.Fun.(*ast.SelectorExpr)
		if !ok || f.Sel.Name != "More" {
			return false
		}
		method, ok := c.Args[0].(*ast.SelectorExpr)
		return ok && all[method.Sel.Name] != nil && all[method.Sel.Name].Recv != nil
	}
	if !reaches(t, "New", gives) {
		t.Error("New gives the heap no method of the machine's")
	}
}

func TestTheEndByMemoryIsThrownAndCaught(t *testing.T) {
	asserts := func(n ast.Node) bool {
		a, ok := n.(*ast.TypeAssertExpr)
		return ok && a.Type != nil
	}
	defers := func(n ast.Node) bool {
		_, ok := n.(*ast.DeferStmt)
		return ok
	}
	for _, face := range []string{"New", "Do"} {
		for what, holds := range map[string]func(n ast.Node) bool{"panic": calls("panic"), "recover": calls("recover"), "type assertion": asserts, "defer": defers} {
			if !reaches(t, face, holds) {
				t.Errorf("%s reaches no %s", face, what)
			}
		}
	}
}
