package stack_test

import (
	"go/ast"
	"go/parser"
	"go/token"
	"testing"
)

// source is the package's text.
func source(t *testing.T) *ast.File {
	t.Helper()
	file, err := parser.ParseFile(token.NewFileSet(), "stack.go", nil, 0)
	if err != nil {
		t.Fatal(err)
	}
	return file
}

// functions are the package's functions and methods by their names.
func functions(t *testing.T) map[string]*ast.FuncDecl {
	t.Helper()
	found := map[string]*ast.FuncDecl{}
	for _, d := range source(t).Decls {
		if f, ok := d.(*ast.FuncDecl); ok {
			found[f.Name.Name] = f
		}
	}
	return found
}

// reaches tells whether something that holds is in the functions that the one of this name reaches, itself too.
func reaches(all map[string]*ast.FuncDecl, name string, holds func(n ast.Node) bool) bool {
	seen, found := map[string]bool{}, false
	var visit func(name string)
	visit = func(name string) {
		if all[name] == nil || seen[name] {
			return
		}
		seen[name] = true
		ast.Inspect(all[name], func(n ast.Node) bool {
			found = found || n != nil && holds(n)
			if id, ok := n.(*ast.Ident); ok {
				visit(id.Name)
			}
			return true
		})
	}
	visit(name)
	return found
}

// mapField is the name of the map that the stack has.
func mapField(t *testing.T) string {
	t.Helper()
	name := ""
	ast.Inspect(source(t), func(n ast.Node) bool {
		s, ok := n.(*ast.StructType)
		if !ok {
			return true
		}
		for _, f := range s.Fields.List {
			if _, is := f.Type.(*ast.MapType); is {
				name = f.Names[0].Name
			}
		}
		return true
	})
	if name == "" {
		t.Fatal("no struct has a map")
	}
	return name
}

// isField tells whether something is the field of this name.
func isField(n ast.Node, name string) bool {
	s, ok := n.(*ast.SelectorExpr)
	return ok && s.Sel.Name == name
}

// calls tells whether something is a call of the built-in function of this name.
func calls(n ast.Node, name string) (*ast.CallExpr, bool) {
	c, ok := n.(*ast.CallExpr)
	if !ok {
		return nil, false
	}
	id, ok := c.Fun.(*ast.Ident)
	return c, ok && id.Name == name
}

func TestWordsGoToAnotherPlaceByCopy(t *testing.T) {
	all := functions(t)
	for _, face := range []string{"Push", "Pop"} {
		copies := func(n ast.Node) bool {
			_, is := calls(n, "copy")
			return is
		}
		if !reaches(all, face, copies) {
			t.Errorf("%s doesn't reach a copy", face)
		}
	}
}

func TestPlacesOfReferencesAreAMapThatIsRangedOver(t *testing.T) {
	all, name := functions(t), mapField(t)
	ranges := func(n ast.Node) bool {
		r, ok := n.(*ast.RangeStmt)
		return ok && isField(r.X, name)
	}
	for _, face := range []string{"Push", "Pop"} {
		if !reaches(all, face, ranges) {
			t.Errorf("%s doesn't reach a range over the map", face)
		}
	}
}

func TestPlacesOfReferencesAreDeletedWhenAFrameGoes(t *testing.T) {
	name := mapField(t)
	deletes := func(n ast.Node) bool {
		c, is := calls(n, "delete")
		return is && isField(c.Args[0], name)
	}
	if !reaches(functions(t), "Pop", deletes) {
		t.Error("Pop doesn't reach a delete from the map")
	}
}
