package vint

import (
	"go/ast"
	"go/parser"
	"go/token"
	"go/types"
	"testing"

	"wringer/api"
)

// The chapter's way: one function reads what a method expression tells it to.
func TestReadTakesMethodExpressions(t *testing.T) {
	if n, next, e := read("\x07\xac\x02", 1, text.number); n != 300 || next != 3 || e != api.OK {
		t.Error("number:", n, next, e)
	}
	if n, next, e := read("\x07\x01\x02\x00\x00\x00\x00\x00\x00", 1, text.word); n != 513 || next != 9 || e != api.OK {
		t.Error("word:", n, next, e)
	}
}

// The chapter's way: Get and GetWord call that one function, each with a method
// expression.
func TestBothReadingsAreOneFunctionOfAMethodExpression(t *testing.T) {
	fset := token.NewFileSet()
	file, err := parser.ParseFile(fset, "vint.go", nil, 0)
	if err != nil {
		t.Fatal(err)
	}
	info := &types.Info{Selections: map[*ast.SelectorExpr]*types.Selection{}}
	// The import of api is left unresolved: no selection that is asked for hangs on it.
	conf := types.Config{Error: func(error) {}}
	conf.Check("vint", fset, []*ast.File{file}, info)
	given := map[string]int{}
	for _, d := range file.Decls {
		f, ok := d.(*ast.FuncDecl)
		if !ok || f.Recv != nil || f.Name.Name != "Get" && f.Name.Name != "GetWord" {
			continue
		}
		ast.Inspect(f, func(n ast.Node) bool {
			call, ok := n.(*ast.CallExpr)
			if !ok {
				return true
			}
			for _, a := range call.Args {
				s, ok := a.(*ast.SelectorExpr)
				if ok && info.Selections[s] != nil && info.Selections[s].Kind() == types.MethodExpr {
					given[types.ExprString(call.Fun)]++
				}
			}
			return true
		})
	}
	if len(given) != 1 || given["read"] != 2 {
		t.Error("method expressions handed on to:", given)
	}
}
