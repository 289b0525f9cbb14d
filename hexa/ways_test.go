package hexa_test

import (
	"go/ast"
	"go/parser"
	"go/token"
	"testing"
)

// The digits of a text are gone through by a range over it, and each rune of it is handed to a function that tells two values.
// No answer tells this: it is seen by reading the words of Bytes.
func TestDigitsAreGoneThroughRuneByRune(t *testing.T) {
	f, err := parser.ParseFile(token.NewFileSet(), "hexa.go", nil, 0)
	if err != nil {
		t.Fatal(err)
	}
	calls := map[string]*ast.FuncDecl{}
	for _, d := range f.Decls {
		if call, is := d.(*ast.FuncDecl); is {
			calls[call.Name.Name] = call
		}
	}
	bytes := calls["Bytes"]
	if bytes == nil {
		t.Fatal("hexa.go has no function Bytes")
	}
	text := bytes.Type.Params.List[0].Names[0].Name
	found := false
	ast.Inspect(bytes, func(n ast.Node) bool {
		if r, is := n.(*ast.RangeStmt); is && named(r.X) == text {
			found = found || asksOf(r.Body, named(r.Value), calls)
		}
		return true
	})
	if !found {
		t.Error("Bytes has no range over its text that hands each rune to a function of two values")
	}
}

// asksOf says whether a call in there takes that rune, and tells two values of it.
func asksOf(body ast.Node, r string, calls map[string]*ast.FuncDecl) bool {
	found := false
	ast.Inspect(body, func(n ast.Node) bool {
		if c, is := n.(*ast.CallExpr); is && len(c.Args) == 1 && r != "" && named(c.Args[0]) == r {
			meaning := calls[named(c.Fun)]
			found = found || meaning != nil && meaning.Type.Results.NumFields() == 2 && named(meaning.Type.Params.List[0].Type) == "rune"
		}
		return true
	})
	return found
}

func named(n ast.Node) string {
	if name, is := n.(*ast.Ident); is {
		return name.Name
	}
	return ""
}
