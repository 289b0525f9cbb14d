package cookie_test

import (
	"go/ast"
	"go/parser"
	"go/token"
	"testing"
)

// No answer tells by which of the language's ways a text or a list is gone through: that is seen by reading the words of cookie.go.

// words are the functions of cookie.go.
func words(t *testing.T) map[string]*ast.FuncDecl {
	t.Helper()
	f, err := parser.ParseFile(token.NewFileSet(), "cookie.go", nil, 0)
	if err != nil {
		t.Fatal(err)
	}
	functions := map[string]*ast.FuncDecl{}
	for _, d := range f.Decls {
		if call, is := d.(*ast.FuncDecl); is {
			functions[call.Name.Name] = call
		}
	}
	for _, name := range []string{"Session", "Set", "cookieOf", "mayBe", "octets"} {
		if functions[name] == nil {
			t.Fatalf("cookie.go has no function %s", name)
		}
	}
	return functions
}

// has says whether a node in there is as it is asked for.
func has(in ast.Node, asked func(ast.Node) bool) bool {
	found := false
	ast.Inspect(in, func(n ast.Node) bool {
		found = found || n != nil && asked(n)
		return !found
	})
	return found
}

func named(n ast.Node) string {
	if name, is := n.(*ast.Ident); is {
		return name.Name
	}
	return ""
}

// calls says whether a call in there is of that function.
func calls(in ast.Node, name string) bool {
	return has(in, func(n ast.Node) bool {
		c, is := n.(*ast.CallExpr)
		return is && named(c.Fun) == name
	})
}

// What may be in a value is told rune by rune, by one function for what is read and what is set.
func TestAValueIsGoneThroughByARange(t *testing.T) {
	functions := words(t)
	s := functions["octets"].Type.Params.List[0].Names[0].Name
	if !has(functions["octets"].Body, func(n ast.Node) bool {
		x, is := n.(*ast.RangeStmt)
		return is && named(x.X) == s && x.Value != nil && has(x.Body, func(n ast.Node) bool { return named(n) == named(x.Value) })
	}) {
		t.Error("octets does not range over its text")
	}
	if !calls(functions["mayBe"], "octets") || !calls(functions["Set"], "mayBe") || !calls(functions["cookieOf"], "mayBe") {
		t.Error("what may be in a value is not told by octets alone")
	}
}

// Behind a second cookie of the session's, the outer one of two loops is left from within the inner one.
func TestALoopIsLeftByALabel(t *testing.T) {
	if !has(words(t)["Session"].Body, func(n ast.Node) bool {
		outer, is := n.(*ast.LabeledStmt)
		if !is {
			return false
		}
		loop, is := outer.Stmt.(*ast.RangeStmt)
		return is && has(loop.Body, func(n ast.Node) bool {
			inner, is := n.(*ast.RangeStmt)
			return is && leaves(inner.Body, outer.Label.Name)
		})
	}) {
		t.Error("Session leaves no loop by a label")
	}
}

// leaves says whether the loop of that label is left in there.
func leaves(in ast.Node, label string) bool {
	return has(in, func(n ast.Node) bool {
		b, is := n.(*ast.BranchStmt)
		return is && b.Tok == token.BREAK && b.Label != nil && b.Label.Name == label
	})
}

// No byte is taken out of a text by its place.
func TestNoByteIsReadByItsPlace(t *testing.T) {
	for name, call := range words(t) {
		if has(call, func(n ast.Node) bool {
			_, is := n.(*ast.IndexExpr)
			return is
		}) {
			t.Errorf("%s reads a byte by its place", name)
		}
	}
}
