package back

import (
	"go/ast"
	"go/parser"
	"go/token"
	"go/types"
	"testing"

	"wringer/api"
)

// The chapter's way: Get is handed on as a method value, and goes on with the
// object that it was taken from.
func TestGetIsHandedOn(t *testing.T) {
	r, e := From(Seal([]uint64{3, 0x1a5}, []int{2, 9}))
	if e != api.OK {
		t.Fatal("From:", e)
	}
	if v, e := getBoth(3, 6, r.Get); v != 0x1a5 || e != api.OK || r.Left() != 2 {
		t.Error("Get:", v, e, r.Left())
	}
	if v, e := getBoth(1, 1, r.Get); v != 3 || e != api.OK || r.Left() != 0 {
		t.Error("Get:", v, e, r.Left())
	}
}

func TestGetOfNilIsHandedOn(t *testing.T) {
	var r *Reader
	if v, e := getBoth(3, 2, r.Get); v != 0 || e != api.ErrNone {
		t.Error("Get:", v, e)
	}
}

// The chapter's way, in the source: a call's argument is Get as a method value.
func TestTheSourceHandsGetOn(t *testing.T) {
	fset := token.NewFileSet()
	file, err := parser.ParseFile(fset, "back.go", nil, 0)
	if err != nil {
		t.Fatal(err)
	}
	info := &types.Info{Selections: map[*ast.SelectorExpr]*types.Selection{}}
	// The imports are left unresolved: no selection that is asked for hangs on them.
	conf := types.Config{Error: func(error) {}}
	conf.Check("back", fset, []*ast.File{file}, info)
	given := 0
	ast.Inspect(file, func(n ast.Node) bool {
		call, ok := n.(*ast.CallExpr)
		if !ok {
			return true
		}
		for _, a := range call.Args {
			s, ok := a.(*ast.SelectorExpr)
			if ok && s.Sel.Name == "Get" && info.Selections[s] != nil && info.Selections[s].Kind() == types.MethodVal {
				given++
			}
		}
		return true
	})
	if given == 0 {
		t.Error("Get is handed on nowhere")
	}
}
