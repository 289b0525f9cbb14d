package text_test

import (
	"go/ast"
	"go/parser"
	"go/token"
	"testing"
)

// No answer tells by which of the language's ways a text is gone through: that is seen by reading the words of text.go.

func calls(t *testing.T) map[string]*ast.FuncDecl {
	t.Helper()
	f, err := parser.ParseFile(token.NewFileSet(), "text.go", nil, 0)
	if err != nil {
		t.Fatal(err)
	}
	found := map[string]*ast.FuncDecl{}
	for _, d := range f.Decls {
		if call, is := d.(*ast.FuncDecl); is {
			found[call.Name.Name] = call
		}
	}
	return found
}

// has says whether a node in there is as it is asked for.
func has(in ast.Node, asked func(ast.Node) bool) bool {
	found := false
	ast.Inspect(in, func(n ast.Node) bool {
		found = found || n != nil && asked(n)
		return !found
	})
	return found
}

func named(n ast.Node) string {
	if name, is := n.(*ast.Ident); is {
		return name.Name
	}
	return ""
}

// rangesOver says whether a function goes through its first argument rune by rune, and hands each rune to something.
func rangesOver(call *ast.FuncDecl) bool {
	s := call.Type.Params.List[0].Names[0].Name
	return has(call.Body, func(n ast.Node) bool {
		r, is := n.(*ast.RangeStmt)
		return is && named(r.X) == s && r.Value != nil && has(r.Body, func(n ast.Node) bool { return named(n) == named(r.Value) })
	})
}

// What may be is told by a closure, which a function asks that ranges over the text.
func TestWhatMayBeIsToldByAClosure(t *testing.T) {
	own := calls(t)
	for _, name := range []string{"Name", "Pass", "Note", "Runes"} {
		if own[name] == nil {
			t.Fatalf("text.go has no function %s", name)
		}
		if !has(own[name].Body, func(n ast.Node) bool {
			c, is := n.(*ast.CallExpr)
			if !is || len(c.Args) != 2 || own[named(c.Fun)] == nil {
				return false
			}
			_, closure := c.Args[1].(*ast.FuncLit)
			return closure && rangesOver(own[named(c.Fun)])
		}) {
			t.Errorf("%s hands no closure to a function that ranges over its text", name)
		}
	}
}

// What a rune becomes stands in a switch, which is asked within a range over the text.
func TestWhatARuneBecomesStandsInASwitch(t *testing.T) {
	own := calls(t)
	if own["Escape"] == nil || !rangesOver(own["Escape"]) {
		t.Fatal("Escape does not range over its text")
	}
	if !has(own["Escape"].Body, func(n ast.Node) bool {
		c, is := n.(*ast.CallExpr)
		return is && own[named(c.Fun)] != nil && has(own[named(c.Fun)].Body, func(n ast.Node) bool {
			_, is := n.(*ast.SwitchStmt)
			return is
		})
	}) {
		t.Error("Escape asks no function with a switch what a rune becomes")
	}
}
