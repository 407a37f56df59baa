package mem_test

import (
	"go/ast"
	"go/parser"
	"go/token"
	"testing"
)

// source is the package's text.
func source(t *testing.T) *ast.File {
	t.Helper()
	file, err := parser.ParseFile(token.NewFileSet(), "mem.go", nil, 0)
	if err != nil {
		t.Fatal(err)
	}
	return file
}

// functions are the package's functions and methods by their names.
func functions(t *testing.T) map[string]*ast.FuncDecl {
	t.Helper()
	found := map[string]*ast.FuncDecl{}
	for _, d := range source(t).Decls {
		if f, ok := d.(*ast.FuncDecl); ok {
			found[f.Name.Name] = f
		}
	}
	return found
}

// anyReached tells whether something that holds is in the functions that the one of this name reaches, itself too.
func anyReached(all map[string]*ast.FuncDecl, name string, holds func(n ast.Node) bool) bool {
	seen, found := map[string]bool{}, false
	var visit func(name string)
	visit = func(name string) {
		if all[name] == nil || seen[name] {
			return
		}
		seen[name] = true
		ast.Inspect(all[name], func(n ast.Node) bool {
			found = found || n != nil && holds(n)
			if id, ok := n.(*ast.Ident); ok {
				visit(id.Name)
			}
			return true
		})
	}
	visit(name)
	return found
}

// calls tells whether something is a call of the function of this name.
func calls(n ast.Node, name string) bool {
	c, ok := n.(*ast.CallExpr)
	if !ok {
		return false
	}
	id, ok := c.Fun.(*ast.Ident)
	return ok && id.Name == name
}

// catches tells whether something is a defer of a function literal that calls recover.
func catches(n ast.Node) bool {
	d, ok := n.(*ast.DeferStmt)
	if !ok {
		return false
	}
	f, ok := d.Call.Fun.(*ast.FuncLit)
	if !ok {
		return false
	}
	found := false
	ast.Inspect(f.Body, func(n ast.Node) bool {
		found = found || n != nil && calls(n, "recover")
		return true
	})
	return found
}

func throws(n ast.Node) bool {
	return calls(n, "panic")
}

func asserts(n ast.Node) bool {
	a, ok := n.(*ast.TypeAssertExpr)
	return ok && a.Type != nil
}

func takesAnyNumber(n ast.Node) bool {
	_, ok := n.(*ast.Ellipsis)
	return ok
}

func continuesByLabel(n ast.Node) bool {
	b, ok := n.(*ast.BranchStmt)
	return ok && b.Tok == token.CONTINUE && b.Label != nil
}

func TestFaultsAreThrownAndCaught(t *testing.T) {
	all := functions(t)
	for _, face := range []string{"Load", "Store", "Cas", "Copy"} {
		for way, holds := range map[string]func(ast.Node) bool{"panic": throws, "recover": catches, "assertion": asserts} {
			if !anyReached(all, face, holds) {
				t.Errorf("%s doesn't reach %s", face, way)
			}
		}
	}
}

func TestStatesAreTakenInAnyNumber(t *testing.T) {
	all := functions(t)
	for _, face := range []string{"Map", "Unmap", "Release", "Load", "Store", "Cas", "Copy"} {
		for way, holds := range map[string]func(ast.Node) bool{"variadic": takesAnyNumber, "continue": continuesByLabel} {
			if !anyReached(all, face, holds) {
				t.Errorf("%s doesn't reach %s", face, way)
			}
		}
	}
}

func TestStatesAreNumberedByIota(t *testing.T) {
	found := false
	for _, d := range source(t).Decls {
		g, ok := d.(*ast.GenDecl)
		if !ok || g.Tok != token.CONST {
			continue
		}
		ast.Inspect(g, func(n ast.Node) bool {
			id, ok := n.(*ast.Ident)
			found = found || ok && id.Name == "iota"
			return true
		})
	}
	if !found {
		t.Error("no constants by iota")
	}
}
