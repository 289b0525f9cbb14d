package crc_test

import (
	"go/ast"
	"go/parser"
	"go/token"
	"testing"
)

// No answer tells by which of the language's ways it was made: that is seen by reading the words of crc.go.

// words are the functions of crc.go.
func words(t *testing.T) map[string]*ast.FuncDecl {
	t.Helper()
	f, err := parser.ParseFile(token.NewFileSet(), "crc.go", nil, 0)
	if err != nil {
		t.Fatal(err)
	}
	functions := map[string]*ast.FuncDecl{}
	for _, d := range f.Decls {
		if call, is := d.(*ast.FuncDecl); is {
			functions[call.Name.Name] = call
		}
	}
	for _, name := range []string{"Sum", "Frame", "Next", "All", "adder", "sumOf", "frames"} {
		if functions[name] == nil {
			t.Fatalf("crc.go has no function %s", name)
		}
	}
	return functions
}

// count is how many nodes in there are as it is asked for.
func count(in ast.Node, asked func(ast.Node) bool) int {
	n := 0
	ast.Inspect(in, func(node ast.Node) bool {
		if node != nil && asked(node) {
			n++
		}
		return true
	})
	return n
}

func calls(in ast.Node, name string) int {
	return count(in, func(n ast.Node) bool {
		c, is := n.(*ast.CallExpr)
		if !is {
			return false
		}
		called, is := c.Fun.(*ast.Ident)
		return is && called.Name == name
	})
}

// The sum that is reckoned so far stands outside of a function literal, which reckons on: each sum is reckoned by it.
func TestSumsAreReckonedByAClosure(t *testing.T) {
	functions := words(t)
	if count(functions["adder"], func(n ast.Node) bool {
		literal, is := n.(*ast.FuncLit)
		return is && count(literal.Body, func(n ast.Node) bool {
			a, is := n.(*ast.AssignStmt)
			return is && a.Tok == token.ASSIGN
		}) == 1
	}) != 1 {
		t.Error("adder answers no closure that reckons on")
	}
	for name, by := range map[string]string{"Sum": "adder", "sumOf": "adder", "Frame": "sumOf", "Next": "sumOf"} {
		if calls(functions[name], by) != 1 {
			t.Errorf("%s reckons no sum by %s", name, by)
		}
	}
	for name, f := range functions {
		if name != "adder" && calls(f, "eightHalves") != 0 {
			t.Errorf("%s reckons a sum of its own", name)
		}
	}
}

// All ranges over the function that frames answers.
func TestFramesAreRangedOver(t *testing.T) {
	functions := words(t)
	if count(functions["All"], func(n ast.Node) bool {
		loop, is := n.(*ast.RangeStmt)
		return is && calls(loop.X, "frames") == 1
	}) != 1 {
		t.Error("All ranges over no function")
	}
	if count(functions["frames"], func(n ast.Node) bool {
		literal, is := n.(*ast.FuncLit)
		return is && calls(literal.Body, "yield") == 1 && calls(literal.Body, "Next") == 1
	}) != 1 {
		t.Error("frames hands on no frames")
	}
}

// Where a number is another one, All leaves its loop from within a switch.
func TestALoopIsLeftByALabel(t *testing.T) {
	if count(words(t)["All"], func(n ast.Node) bool {
		outer, is := n.(*ast.LabeledStmt)
		if !is {
			return false
		}
		loop, is := outer.Stmt.(*ast.RangeStmt)
		return is && count(loop.Body, func(n ast.Node) bool {
			inner, is := n.(*ast.SwitchStmt)
			return is && count(inner.Body, func(n ast.Node) bool {
				b, is := n.(*ast.BranchStmt)
				return is && b.Tok == token.BREAK && b.Label != nil && b.Label.Name == outer.Label.Name
			}) == 1
		}) == 1
	}) != 1 {
		t.Error("All leaves no loop by a label")
	}
}
