package disk_test

import (
	"go/ast"
	"go/parser"
	"go/token"
	"testing"
)

// No answer tells by which of the language's ways a disk is kept: that is seen by reading the words of disk.go.

// words are the functions and the methods of disk.go.
func words(t *testing.T) (*ast.File, map[string]*ast.FuncDecl) {
	t.Helper()
	f, err := parser.ParseFile(token.NewFileSet(), "disk.go", nil, 0)
	if err != nil {
		t.Fatal(err)
	}
	functions := map[string]*ast.FuncDecl{}
	for _, d := range f.Decls {
		if call, is := d.(*ast.FuncDecl); is {
			functions[call.Name.Name] = call
		}
	}
	for _, name := range []string{"Append", "Sync", "Rename", "Drop", "Crash", "step", "done"} {
		if functions[name] == nil {
			t.Fatalf("disk.go has no function %s", name)
		}
	}
	return f, functions
}

// count is how many nodes in there are as it is asked for.
func count(in ast.Node, asked func(ast.Node) bool) int {
	n := 0
	ast.Inspect(in, func(node ast.Node) bool {
		if node != nil && asked(node) {
			n++
		}
		return true
	})
	return n
}

func named(n ast.Node) string {
	switch x := n.(type) {
	case *ast.Ident:
		return x.Name
	case *ast.SelectorExpr:
		return x.Sel.Name
	}
	return ""
}

// Files stand in a map by their names, and Rename and Drop delete them out of it.
func TestFilesStandInAMap(t *testing.T) {
	f, functions := words(t)
	if count(f, func(n ast.Node) bool {
		field, is := n.(*ast.Field)
		if !is || len(field.Names) != 1 || field.Names[0].Name != "files" {
			return false
		}
		m, is := field.Type.(*ast.MapType)
		return is && named(m.Key) == "string"
	}) != 1 {
		t.Error("the files stand in no map")
	}
	for _, name := range []string{"Rename", "Drop"} {
		if count(functions[name], func(n ast.Node) bool {
			c, is := n.(*ast.CallExpr)
			return is && named(c.Fun) == "delete" && named(c.Args[0]) == "files"
		}) != 1 {
			t.Errorf("%s deletes no file out of the map", name)
		}
	}
}

// Each call that takes steps hands on the method as a value: none calls it by its name.
func TestStepsAreAskedByAMethodValue(t *testing.T) {
	f, functions := words(t)
	if count(f, func(n ast.Node) bool {
		c, is := n.(*ast.CallExpr)
		if !is {
			return false
		}
		method, is := c.Fun.(*ast.SelectorExpr)
		return is && method.Sel.Name == "step"
	}) != 0 {
		t.Error("a step is asked by the method's name")
	}
	for _, name := range []string{"Append", "Sync", "Rename", "Drop"} {
		if count(functions[name], func(n ast.Node) bool {
			c, is := n.(*ast.CallExpr)
			if !is || named(c.Fun) != "done" || len(c.Args) != 2 {
				return false
			}
			value, is := c.Args[1].(*ast.SelectorExpr)
			return is && value.Sel.Name == "step"
		}) != 1 {
			t.Errorf("%s hands on no step as a value", name)
		}
	}
}

// Where nothing is left to be kept, Crash leaves the outer one of two loops from within the inner one.
func TestALoopIsLeftByALabel(t *testing.T) {
	_, functions := words(t)
	if count(functions["Crash"], func(n ast.Node) bool {
		outer, is := n.(*ast.LabeledStmt)
		if !is {
			return false
		}
		loop, is := outer.Stmt.(*ast.RangeStmt)
		return is && count(loop.Body, func(n ast.Node) bool {
			inner, is := n.(*ast.ForStmt)
			return is && count(inner.Body, func(n ast.Node) bool {
				b, is := n.(*ast.BranchStmt)
				return is && b.Tok == token.BREAK && b.Label != nil && b.Label.Name == outer.Label.Name
			}) == 1
		}) == 1
	}) != 1 {
		t.Error("Crash leaves no loop by a label")
	}
}
