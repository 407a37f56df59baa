package queue_test

import (
	"go/ast"
	"go/parser"
	"go/token"
	"testing"
)

// source is the package's text.
func source(t *testing.T) *ast.File {
	t.Helper()
	file, err := parser.ParseFile(token.NewFileSet(), "queue.go", nil, 0)
	if err != nil {
		t.Fatal(err)
	}
	return file
}

// functions are the package's functions and methods by their names.
func functions(t *testing.T) map[string]*ast.FuncDecl {
	t.Helper()
	found := map[string]*ast.FuncDecl{}
	for _, d := range source(t).Decls {
		if f, ok := d.(*ast.FuncDecl); ok {
			found[f.Name.Name] = f
		}
	}
	return found
}

// reaches tells whether something that holds is in the functions that the one of this name reaches, itself too.
func reaches(all map[string]*ast.FuncDecl, name string, holds func(n ast.Node) bool) bool {
	seen, found := map[string]bool{}, false
	var visit func(name string)
	visit = func(name string) {
		if all[name] == nil || seen[name] {
			return
		}
		seen[name] = true
		ast.Inspect(all[name], func(n ast.Node) bool {
			found = found || n != nil && holds(n)
			if id, ok := n.(*ast.Ident); ok {
				visit(id.Name)
			}
			return true
		})
	}
	visit(name)
	return found
}

// isArray tells whether a field is an array.
func isArray(f *ast.Field) bool {
	a, ok := f.Type.(*ast.ArrayType)
	return ok && a.Len != nil
}

// indexes tells whether something is an element of the field of this name.
func indexes(n ast.Node, name string) bool {
	x, ok := n.(*ast.IndexExpr)
	if !ok {
		return false
	}
	s, ok := x.X.(*ast.SelectorExpr)
	return ok && s.Sel.Name == name
}

func TestARingIsAnArrayWithinAStruct(t *testing.T) {
	name := ""
	ast.Inspect(source(t), func(n ast.Node) bool {
		s, ok := n.(*ast.StructType)
		if !ok {
			return true
		}
		for _, f := range s.Fields.List {
			if isArray(f) {
				name = f.Names[0].Name
			}
		}
		return true
	})
	if name == "" {
		t.Fatal("no struct has an array")
	}
	all := functions(t)
	for _, face := range []string{"Put", "Get"} {
		if !reaches(all, face, func(n ast.Node) bool { return indexes(n, name) }) {
			t.Errorf("%s doesn't reach the array", face)
		}
	}
}

func TestTheSearchForAVictimIsContinuedByALabel(t *testing.T) {
	continues := func(n ast.Node) bool {
		b, ok := n.(*ast.BranchStmt)
		return ok && b.Tok == token.CONTINUE && b.Label != nil
	}
	if !reaches(functions(t), "Get", continues) {
		t.Error("Get doesn't reach it")
	}
}
