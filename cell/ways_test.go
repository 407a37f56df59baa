package cell_test

import (
	"go/ast"
	"go/parser"
	"go/token"
	"testing"
)

// source is the package's text.
func source(t *testing.T) *ast.File {
	t.Helper()
	file, err := parser.ParseFile(token.NewFileSet(), "cell.go", nil, 0)
	if err != nil {
		t.Fatal(err)
	}
	return file
}

// fields are those of the package's struct of this name.
func fields(t *testing.T, name string) []*ast.Field {
	t.Helper()
	var list []*ast.Field
	ast.Inspect(source(t), func(n ast.Node) bool {
		if s, ok := n.(*ast.TypeSpec); ok && s.Name.Name == name {
			list = s.Type.(*ast.StructType).Fields.List
		}
		return true
	})
	return list
}

// reaches tells whether something that holds is in the functions that the one of this name reaches, itself too.
func reaches(all map[string]*ast.FuncDecl, name string, holds func(n ast.Node) bool) bool {
	seen, found := map[string]bool{}, false
	var visit func(name string)
	visit = func(name string) {
		if all[name] == nil || seen[name] {
			return
		}
		seen[name] = true
		ast.Inspect(all[name], func(n ast.Node) bool {
			found = found || n != nil && holds(n)
			if id, ok := n.(*ast.Ident); ok {
				visit(id.Name)
			}
			return true
		})
	}
	visit(name)
	return found
}

// functions are the package's functions and methods by their names.
func functions(t *testing.T) map[string]*ast.FuncDecl {
	t.Helper()
	list := map[string]*ast.FuncDecl{}
	for _, d := range source(t).Decls {
		if f, ok := d.(*ast.FuncDecl); ok {
			list[f.Name.Name] = f
		}
	}
	return list
}

// isSelector tells whether something is x.name, whatever x is.
func isSelector(n ast.Node, name string) bool {
	s, ok := n.(*ast.SelectorExpr)
	return ok && s.Sel.Name == name
}

// looksUp tells whether something is an element of the blocks.
func looksUp(n ast.Node) bool {
	x, ok := n.(*ast.IndexExpr)
	return ok && isSelector(x.X, "blocks")
}

// isPromoted tells whether something is a block's first page, told as the block's own.
func isPromoted(n ast.Node) bool {
	s, ok := n.(*ast.SelectorExpr)
	if !ok || s.Sel.Name != "Base" {
		return false
	}
	id, ok := s.X.(*ast.Ident)
	return ok && id.Name == "b"
}

func TestBlocksAreKeptInAMap(t *testing.T) {
	found := false
	for _, f := range fields(t, "Cells") {
		m, ok := f.Type.(*ast.MapType)
		if !ok {
			continue
		}
		p, ok := m.Value.(*ast.StarExpr)
		found = ok && p.X.(*ast.Ident).Name == "block"
	}
	if !found {
		t.Error("no field is a map of blocks")
	}
	all := functions(t)
	for _, face := range []string{"Alloc", "Find", "Free"} {
		if !reaches(all, face, looksUp) {
			t.Errorf("%s doesn't reach the map", face)
		}
	}
}

func TestABlockIsASpanWithMore(t *testing.T) {
	embedded := 0
	for _, f := range fields(t, "block") {
		if len(f.Names) == 0 && isSelector(f.Type, "Span") {
			embedded++
		}
	}
	if embedded != 1 {
		t.Errorf("%d spans are embedded in a block", embedded)
	}
	all := functions(t)
	for _, face := range []string{"Alloc", "Find", "Free", "Flush"} {
		if !reaches(all, face, isPromoted) {
			t.Errorf("%s doesn't reach a field that is promoted", face)
		}
	}
}
