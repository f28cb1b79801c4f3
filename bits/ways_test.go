package bits

import (
	"go/ast"
	"go/parser"
	"go/token"
	"go/types"
	"testing"

	"wringer/api"
)

// The chapter's way: Put and Get are handed on as method values, and each goes
// on with the object that it was taken from.
func TestPutAndGetAreHandedOn(t *testing.T) {
	w := New()
	putBoth(0x1a5, 3, 6, w.Put)
	putBoth(3, 1, 1, w.Put)
	if w.Len() != 11 || w.Bytes() != "\xa5\x07" {
		t.Errorf("%d bits %q", w.Len(), w.Bytes())
	}
	r := From(w.Bytes())
	if v, e := getBoth(3, 6, r.Get); v != 0x1a5 || e != api.OK {
		t.Error("Get:", v, e)
	}
	if v, e := getBoth(1, 1, r.Get); v != 3 || e != api.OK {
		t.Error("Get:", v, e)
	}
	if r.left() != 5 {
		t.Error("left:", r.left())
	}
}

func TestPutAndGetOfNilAreHandedOn(t *testing.T) {
	var w *Writer
	putBoth(5, 3, 2, w.Put)
	if w.Len() != 0 {
		t.Error("Put:", w.Len())
	}
	var r *Reader
	if v, e := getBoth(3, 2, r.Get); v != 0 || e != api.ErrNone {
		t.Error("Get:", v, e)
	}
}

// The chapter's way, in the source: a call's argument is Put, or Get, as a
// method value.
func TestTheSourceHandsPutAndGetOn(t *testing.T) {
	fset := token.NewFileSet()
	file, err := parser.ParseFile(fset, "bits.go", nil, 0)
	if err != nil {
		t.Fatal(err)
	}
	info := &types.Info{Selections: map[*ast.SelectorExpr]*types.Selection{}}
	// The import of api is left unresolved: no selection that is asked for hangs on it.
	conf := types.Config{Error: func(error) {}}
	conf.Check("bits", fset, []*ast.File{file}, info)
	given := map[string]int{}
	ast.Inspect(file, func(n ast.Node) bool {
		call, ok := n.(*ast.CallExpr)
		if !ok {
			return true
		}
		for _, a := range call.Args {
			s, ok := a.(*ast.SelectorExpr)
			if ok && info.Selections[s] != nil && info.Selections[s].Kind() == types.MethodVal {
				given[s.Sel.Name]++
			}
		}
		return true
	})
	if given["Put"] == 0 || given["Get"] == 0 {
		t.Error("method values handed on:", given)
	}
}
