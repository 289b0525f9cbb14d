package head_test

import (
	"go/ast"
	"go/parser"
	"go/token"
	"testing"
)

// No answer tells by which of the language's ways a text is gone through: that is seen by reading the words of head.go.

// words are the functions of head.go, and the names of its constants.
func words(t *testing.T) (functions map[string]*ast.FuncDecl, constants map[string]bool) {
	t.Helper()
	f, err := parser.ParseFile(token.NewFileSet(), "head.go", nil, 0)
	if err != nil {
		t.Fatal(err)
	}
	functions, constants = map[string]*ast.FuncDecl{}, map[string]bool{}
	for _, d := range f.Decls {
		switch x := d.(type) {
		case *ast.FuncDecl:
			functions[x.Name.Name] = x
		case *ast.GenDecl:
			for _, s := range x.Specs {
				if c, is := s.(*ast.ValueSpec); is && x.Tok == token.CONST {
					constants[c.Names[0].Name] = true
				}
			}
		}
	}
	return functions, constants
}

// has says whether a node in there is as it is asked for.
func has(in ast.Node, asked func(ast.Node) bool) bool {
	found := false
	ast.Inspect(in, func(n ast.Node) bool {
		found = found || n != nil && asked(n)
		return !found
	})
	return found
}

func named(n ast.Node) string {
	if name, is := n.(*ast.Ident); is {
		return name.Name
	}
	return ""
}

// calls says whether a call in there is of that function.
func calls(in ast.Node, name string) bool {
	return has(in, func(n ast.Node) bool {
		c, is := n.(*ast.CallExpr)
		return is && named(c.Fun) == name
	})
}

// ranges says whether a function goes through its first argument rune by rune, and has something done with each of them.
func ranges(call *ast.FuncDecl, done func(body ast.Node, r string) bool) bool {
	if call == nil {
		return false
	}
	s := call.Type.Params.List[0].Names[0].Name
	return has(call.Body, func(n ast.Node) bool {
		x, is := n.(*ast.RangeStmt)
		return is && named(x.X) == s && x.Value != nil && done(x.Body, named(x.Value))
	})
}

// What a sign may be stands in a text, a constant, that is searched for each rune of a range.
func TestSignsAreSearchedInAText(t *testing.T) {
	functions, constants := words(t)
	for _, name := range []string{"Token", "Value", "small"} {
		if !ranges(functions[name], func(body ast.Node, r string) bool {
			return has(body, func(n ast.Node) bool {
				c, is := n.(*ast.CallExpr)
				if !is || len(c.Args) != 2 || named(c.Args[1]) != r || !constants[named(c.Args[0])] {
					return false
				}
				s, is := c.Fun.(*ast.SelectorExpr)
				return is && named(s.X) == "strings" && s.Sel.Name == "ContainsRune"
			})
		}) {
			t.Errorf("%s searches no text for each rune of a range", name)
		}
	}
	if same := functions["Same"]; same == nil || !calls(same.Body, "small") {
		t.Error("Same does not ask for its texts in small letters")
	}
}

// A line is gone through by a range up to its colon, and its field is told by a function of two answers.
func TestAFieldIsToldByAFunctionOfTwoAnswers(t *testing.T) {
	functions, _ := words(t)
	halves := functions["halves"]
	if !ranges(halves, func(body ast.Node, r string) bool {
		return has(body, func(n ast.Node) bool { return named(n) == r })
	}) {
		t.Fatal("halves does not range over its line")
	}
	if n := halves.Type.Results.NumFields(); n != 2 {
		t.Errorf("halves has %d answers", n)
	}
	if !calls(functions["Field"].Body, "halves") {
		t.Error("Field does not ask halves")
	}
}

// No byte is taken out of a text by its place (what small writes to is a row of bytes of its own).
func TestNoByteIsReadByItsPlace(t *testing.T) {
	functions, _ := words(t)
	for name, call := range functions {
		if has(call, func(n ast.Node) bool {
			x, is := n.(*ast.IndexExpr)
			return is && !(name == "small" && named(x.X) == "b")
		}) {
			t.Errorf("%s reads a byte by its place", name)
		}
	}
}
