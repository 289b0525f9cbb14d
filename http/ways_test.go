package http_test

import (
	"go/ast"
	"go/parser"
	"go/token"
	"testing"
)

// No answer tells by which of the language's ways bytes are read: that is seen by reading the words of http.go.

// words are the functions of http.go, and the methods of its reader.
func words(t *testing.T) (functions, methods map[string]*ast.FuncDecl) {
	t.Helper()
	f, err := parser.ParseFile(token.NewFileSet(), "http.go", nil, 0)
	if err != nil {
		t.Fatal(err)
	}
	functions, methods = map[string]*ast.FuncDecl{}, map[string]*ast.FuncDecl{}
	for _, d := range f.Decls {
		call, is := d.(*ast.FuncDecl)
		if !is {
			continue
		}
		if call.Recv == nil {
			functions[call.Name.Name] = call
			continue
		}
		if p, is := call.Recv.List[0].Type.(*ast.StarExpr); is && named(p.X) == "reader" {
			methods[call.Name.Name] = call
		}
	}
	return functions, methods
}

// has says whether a node in there is as it is asked for.
func has(in ast.Node, asked func(ast.Node) bool) bool {
	found := false
	ast.Inspect(in, func(n ast.Node) bool {
		found = found || n != nil && asked(n)
		return !found
	})
	return found
}

func named(n ast.Node) string {
	if name, is := n.(*ast.Ident); is {
		return name.Name
	}
	return ""
}

// calls says whether a call in there is of that function.
func calls(in ast.Node, name string) bool {
	return has(in, func(n ast.Node) bool {
		c, is := n.(*ast.CallExpr)
		return is && named(c.Fun) == name
	})
}

// What is wrong panics with a type of its own, and is recovered in a deferred function by an assertion of two values.
func TestWhatIsWrongPanicsAndIsRecovered(t *testing.T) {
	functions, _ := words(t)
	for _, name := range []string{"Parse", "caught", "need", "request"} {
		if functions[name] == nil {
			t.Fatalf("http.go has no function %s", name)
		}
	}
	if !calls(functions["need"], "panic") || !calls(functions["request"], "need") {
		t.Error("what is wrong does not panic")
	}
	if !calls(functions["Parse"], "caught") || !calls(functions["Parse"], "request") {
		t.Error("Parse does not catch what its request panics with")
	}
	if !has(functions["caught"], func(n ast.Node) bool {
		d, is := n.(*ast.DeferStmt)
		if !is {
			return false
		}
		f, is := d.Call.Fun.(*ast.FuncLit)
		return is && calls(f, "recover") && calls(f, "panic") && has(f, asserts)
	}) {
		t.Error("caught has no deferred function that recovers, asserts, and lets another panic go on")
	}
}

// asserts says whether a node takes an assertion's two values, of the type wrong.
func asserts(n ast.Node) bool {
	a, is := n.(*ast.AssignStmt)
	if !is || len(a.Lhs) != 2 || len(a.Rhs) != 1 {
		return false
	}
	x, is := a.Rhs[0].(*ast.TypeAssertExpr)
	return is && named(x.Type) == "wrong"
}

// Bytes are read by methods of a reader: no other function takes a byte out by its place, or ranges over bytes.
// (What the others do index are the lists of lines, and of lengths.)
func TestBytesAreReadByAReader(t *testing.T) {
	functions, methods := words(t)
	for _, name := range []string{"Lines", "asked", "isPath"} {
		if functions[name] == nil {
			t.Fatalf("http.go has no function %s", name)
		}
		if !has(functions[name].Body, func(n ast.Node) bool {
			c, is := n.(*ast.CallExpr)
			if !is {
				return false
			}
			s, is := c.Fun.(*ast.SelectorExpr)
			return is && methods[s.Sel.Name] != nil
		}) {
			t.Errorf("%s asks no method of a reader", name)
		}
	}
	for name, call := range functions {
		if has(call, func(n ast.Node) bool {
			x, is := n.(*ast.IndexExpr)
			return is && named(x.X) != "lines" && named(x.X) != "lengths"
		}) {
			t.Errorf("%s reads a byte by its place", name)
		}
		if has(call, func(n ast.Node) bool {
			x, is := n.(*ast.RangeStmt)
			if !is {
				return false
			}
			s, field := x.X.(*ast.SelectorExpr)
			return named(x.X) != "lines" && !(field && s.Sel.Name == "Fields")
		}) {
			t.Errorf("%s ranges over bytes", name)
		}
	}
}
