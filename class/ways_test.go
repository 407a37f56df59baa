package class_test

import (
	"go/ast"
	"go/parser"
	"go/token"
	"testing"
)

// declared is the declaration of the package's variable of this name.
func declared(t *testing.T, file *ast.File, name string) *ast.ValueSpec {
	t.Helper()
	for _, d := range file.Decls {
		g, ok := d.(*ast.GenDecl)
		if !ok || g.Tok != token.VAR {
			continue
		}
		for _, s := range g.Specs {
			if v, ok := s.(*ast.ValueSpec); ok && v.Names[0].Name == name {
				return v
			}
		}
	}
	t.Fatalf("no variable %s", name)
	return nil
}

// isArray tells whether a literal is one of an array, not of a slice.
func isArray(x ast.Expr) bool {
	c, ok := x.(*ast.CompositeLit)
	if !ok {
		return false
	}
	a, ok := c.Type.(*ast.ArrayType)
	return ok && a.Len != nil
}

func TestSizesAreAnArray(t *testing.T) {
	file, err := parser.ParseFile(token.NewFileSet(), "class.go", nil, 0)
	if err != nil {
		t.Fatal(err)
	}
	if v := declared(t, file, "sizes"); len(v.Values) != 1 || !isArray(v.Values[0]) {
		t.Error("the sizes are no array")
	}
	for _, d := range file.Decls {
		f, ok := d.(*ast.FuncDecl)
		if !ok || f.Name.Name != "Count" && f.Name.Name != "Of" && f.Name.Name != "Words" {
			continue
		}
		read := false
		ast.Inspect(f, func(n ast.Node) bool {
			id, ok := n.(*ast.Ident)
			read = read || ok && id.Name == "sizes"
			return true
		})
		if !read {
			t.Errorf("%s doesn't read the sizes", f.Name.Name)
		}
	}
}
