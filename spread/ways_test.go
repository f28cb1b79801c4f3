package spread

import (
	"go/ast"
	"go/parser"
	"go/token"
	"go/types"
	"slices"
	"testing"

	"wringer/api"
)

// The chapter's way: each does at each place what a method expression tells it to.
func TestEachTakesMethodExpressions(t *testing.T) {
	w := walk{classes: []int{9, 9, 9, 9, 9, 9, 9, 9}}
	each(&w, []int{1, 2, 3}, (*walk).lay)
	// Of 8 places it goes 4, 1 and 3 further: from 0 on none but 0.
	if !slices.Equal(w.classes, []int{3, 9, 9, 9, 9, 9, 9, 9}) || w.at != 0 {
		t.Error("lay:", w)
	}
	w = walk{classes: make([]int, 16)}
	each(&w, []int{1, 2, 3}, (*walk).lay)
	if !slices.Equal(w.classes, []int{1, 0, 0, 0, 0, 0, 0, 0, 0, 0, 3, 0, 0, 2, 0, 0}) || w.at != 7 {
		t.Error("lay:", w)
	}
	r := table{log: 2, states: []int{1, 3}}
	each(&r, []int{1, 0, 1, 1}, (*table).tell)
	want := []api.Cell{{Class: 1, Bits: 1, Base: 2}, {Class: 0, Bits: 2, Base: 0}, {Class: 1, Bits: 0, Base: 0}, {Class: 1, Bits: 0, Base: 1}}
	if !slices.Equal(r.cells, want) || !slices.Equal(r.states, []int{2, 6}) {
		t.Error("tell:", r)
	}
}

func TestEachGoesInOrder(t *testing.T) {
	var got []int
	each(&got, []int{4, 1, 1, 7}, func(l *[]int, class int) { *l = append(*l, class) })
	if !slices.Equal(got, []int{4, 1, 1, 7}) {
		t.Error(got)
	}
}

// given tells, of the function called in of the source, to which functions it
// hands which method expressions on.
func given(t *testing.T, in string) map[string]string {
	t.Helper()
	fset := token.NewFileSet()
	file, err := parser.ParseFile(fset, "spread.go", nil, 0)
	if err != nil {
		t.Fatal(err)
	}
	info := &types.Info{Selections: map[*ast.SelectorExpr]*types.Selection{}}
	// The imports are left unresolved: no selection that is asked for hangs on them.
	conf := types.Config{Error: func(error) {}}
	conf.Check("spread", fset, []*ast.File{file}, info)
	to := map[string]string{}
	for _, d := range file.Decls {
		f, ok := d.(*ast.FuncDecl)
		if !ok || f.Name.Name != in {
			continue
		}
		ast.Inspect(f, func(n ast.Node) bool {
			call, ok := n.(*ast.CallExpr)
			if !ok {
				return true
			}
			for _, a := range call.Args {
				s, ok := a.(*ast.SelectorExpr)
				if ok && info.Selections[s] != nil && info.Selections[s].Kind() == types.MethodExpr {
					to[types.ExprString(s)] = types.ExprString(call.Fun)
				}
			}
			return true
		})
	}
	return to
}

// The chapter's way, in the source: both calls hand a method expression to the
// one function that goes through the places.
func TestBothCallsHandAMethodExpressionOn(t *testing.T) {
	for in, step := range map[string]string{"Spread": "(*walk).lay", "Table": "(*table).tell"} {
		if got := given(t, in); len(got) != 1 || got[step] != "each" {
			t.Errorf("%s hands on %v, want %s to each", in, got, step)
		}
	}
}
