package resp_test

import (
	"go/ast"
	"go/parser"
	"go/token"
	"testing"

	"wicketman/api"
	"wicketman/resp"
)

// No answer tells by which of the language's ways a response is written: that is seen by reading the words of resp.go.

// words are the functions of resp.go, and the methods of its types.
func words(t *testing.T) (functions, methods map[string]*ast.FuncDecl) {
	t.Helper()
	f, err := parser.ParseFile(token.NewFileSet(), "resp.go", nil, 0)
	if err != nil {
		t.Fatal(err)
	}
	functions, methods = map[string]*ast.FuncDecl{}, map[string]*ast.FuncDecl{}
	for _, d := range f.Decls {
		call, is := d.(*ast.FuncDecl)
		switch {
		case is && call.Recv == nil:
			functions[call.Name.Name] = call
		case is:
			methods[call.Name.Name] = call
		}
	}
	for _, name := range []string{"Reason", "statuses", "Print", "writeHead"} {
		if functions[name] == nil {
			t.Fatalf("resp.go has no function %s", name)
		}
	}
	return functions, methods
}

// count is how many nodes in there are as it is asked for.
func count(in ast.Node, asked func(ast.Node) bool) int {
	n := 0
	ast.Inspect(in, func(node ast.Node) bool {
		if node != nil && asked(node) {
			n++
		}
		return true
	})
	return n
}

func named(n ast.Node) string {
	if name, is := n.(*ast.Ident); is {
		return name.Name
	}
	return ""
}

// calls is how many calls in there are of that function.
func calls(in ast.Node, name string) int {
	return count(in, func(n ast.Node) bool {
		c, is := n.(*ast.CallExpr)
		return is && named(c.Fun) == name
	})
}

// What a status is called stands in a map, at a number each, and Reason looks there.
func TestReasonsStandInAMap(t *testing.T) {
	functions, _ := words(t)
	if count(functions["statuses"], func(n ast.Node) bool {
		l, is := n.(*ast.CompositeLit)
		if !is || len(l.Elts) != len(reasons()) {
			return false
		}
		m, is := l.Type.(*ast.MapType)
		return is && named(m.Key) == "int"
	}) != 1 {
		t.Error("the statuses stand in no map")
	}
	if count(functions["Reason"], func(n ast.Node) bool {
		x, is := n.(*ast.IndexExpr)
		return is && calls(x.X, "statuses") == 1 && named(x.Index) == "status"
	}) != 1 {
		t.Error("Reason does not look into the map")
	}
}

// Page takes as many fields as there are: none, some, or a list of them.
func TestFieldsAreVariadic(t *testing.T) {
	var page func(int, string, ...api.Pair) api.Response = resp.Page
	a, b := api.Pair{Name: "a", Value: "b"}, api.Pair{Name: "c", Value: "d"}
	if none, two, list := page(200, ""), page(200, "", a, b), page(200, "", []api.Pair{a, b}...); len(none.Fields) != 2 || len(two.Fields) != 4 || !areSame(two, list) {
		t.Errorf("Page tells %s, %s, %s", shown(none), shown(two), shown(list))
	}
}

// Print hands on a method as a value, and it is that which writes each line.
func TestLinesAreWrittenByAMethodValue(t *testing.T) {
	functions, methods := words(t)
	if count(functions["Print"], func(n ast.Node) bool {
		c, is := n.(*ast.CallExpr)
		if !is || named(c.Fun) != "writeHead" || len(c.Args) != 2 {
			return false
		}
		value, is := c.Args[1].(*ast.SelectorExpr)
		return is && methods[value.Sel.Name] != nil
	}) != 1 {
		t.Error("Print hands on no method as a value")
	}
	if n := calls(functions["writeHead"], "write"); n != 4 {
		t.Errorf("%d calls of what writes a line, want 4: the first one, each field's, the length's, the empty one", n)
	}
	for name, call := range functions {
		if count(call, func(n ast.Node) bool { return named(n) == "lineEnd" }) != 0 {
			t.Errorf("%s ends a line by itself", name)
		}
	}
}
