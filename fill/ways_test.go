package fill_test

import (
	"go/ast"
	"go/parser"
	"go/token"
	"testing"
)

// No answer tells by which of the language's ways a form is gone through: that is seen by reading the words of fill.go.

// calls are the functions of fill.go, and methods those of its types that are asked by a pointer.
func calls(t *testing.T) (functions, methods map[string]*ast.FuncDecl) {
	t.Helper()
	f, err := parser.ParseFile(token.NewFileSet(), "fill.go", nil, 0)
	if err != nil {
		t.Fatal(err)
	}
	functions, methods = map[string]*ast.FuncDecl{}, map[string]*ast.FuncDecl{}
	for _, d := range f.Decls {
		call, is := d.(*ast.FuncDecl)
		if !is {
			continue
		}
		if call.Recv == nil {
			functions[call.Name.Name] = call
		} else if _, pointer := call.Recv.List[0].Type.(*ast.StarExpr); pointer {
			methods[call.Name.Name] = call
		} else {
			t.Errorf("the method %s is asked by no pointer", call.Name.Name)
		}
	}
	return functions, methods
}

// has says whether a node in there is as it is asked for.
func has(in ast.Node, asked func(ast.Node) bool) bool {
	found := false
	ast.Inspect(in, func(n ast.Node) bool {
		found = found || n != nil && asked(n)
		return !found
	})
	return found
}

func named(n ast.Node) string {
	if name, is := n.(*ast.Ident); is {
		return name.Name
	}
	return ""
}

// Bytes are read by methods of a reader: no other function takes a byte out of a text by its place.
// (What the others do index is the table of digits, and the list of pairs.)
func TestBytesAreReadByAReader(t *testing.T) {
	functions, methods := calls(t)
	for _, name := range []string{"Unescape", "Escape", "cut"} {
		if functions[name] == nil {
			t.Fatalf("fill.go has no function %s", name)
		}
		if !has(functions[name].Body, func(n ast.Node) bool {
			c, is := n.(*ast.CallExpr)
			if !is {
				return false
			}
			s, is := c.Fun.(*ast.SelectorExpr)
			return is && methods[s.Sel.Name] != nil
		}) {
			t.Errorf("%s asks no method of a reader", name)
		}
	}
	for name, call := range functions {
		if has(call, func(n ast.Node) bool {
			x, is := n.(*ast.IndexExpr)
			return is && named(x.X) != "digits" && named(x.X) != "pairs"
		}) {
			t.Errorf("%s reads a byte by its place", name)
		}
	}
}

// Pieces are told by a range over strings.SplitSeq, and that loop goes on by its label out of another loop.
func TestPiecesAreToldByARangeOverAFunction(t *testing.T) {
	functions, _ := calls(t)
	found := false
	for _, call := range functions {
		found = found || has(call.Body, func(n ast.Node) bool {
			l, is := n.(*ast.LabeledStmt)
			if !is {
				return false
			}
			r, is := l.Stmt.(*ast.RangeStmt)
			return is && splits(r.X) && has(r.Body, func(n ast.Node) bool {
				inner, is := n.(*ast.ForStmt)
				return is && goesOn(inner, l.Label.Name)
			})
		})
	}
	if !found {
		t.Error("fill.go has no labelled range over strings.SplitSeq that goes on out of a loop within it")
	}
}

func splits(x ast.Expr) bool {
	c, is := x.(*ast.CallExpr)
	if !is {
		return false
	}
	s, is := c.Fun.(*ast.SelectorExpr)
	return is && named(s.X) == "strings" && s.Sel.Name == "SplitSeq"
}

func goesOn(in ast.Node, label string) bool {
	return has(in, func(n ast.Node) bool {
		b, is := n.(*ast.BranchStmt)
		return is && b.Tok == token.CONTINUE && b.Label != nil && b.Label.Name == label
	})
}
