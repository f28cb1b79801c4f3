package lens

import (
	"go/ast"
	"go/parser"
	"go/token"
	"go/types"
	"slices"
	"testing"

	"wringer/api"
	"wringer/bits"
)

// The chapter's way: lengths are read by a method value, which goes on with the
// bits that it was taken from.
func TestLengthsAreReadByAMethodValue(t *testing.T) {
	told := halves{bits.From("\x21\x00\x03\xf0")}
	next := told.next
	for _, want := range [][]int{{1}, {2}, {0}, {3}} {
		if l, e := some(next); e != api.OK || !slices.Equal(l, want) {
			t.Error(l, e, "want", want)
		}
	}
	if l, e := some(next); e != api.OK || len(l) != 1 || l[0] != 0 {
		t.Error("a row across two bytes:", l, e)
	}
	if n, e := next(); e != api.OK || n != 15 {
		t.Error("the last half:", n, e)
	}
	if n, e := told.next(); e != api.ErrMore || n != 0 {
		t.Error("behind the last half:", n, e)
	}
}

// Whoever tells four bits can be read from: not the bytes alone.
func TestAllTakesWhateverTellsFourBits(t *testing.T) {
	many := 0
	l, e := all(func() (int, api.Errno) {
		many++
		return 1 + many%15, api.OK
	})
	if e != api.OK || len(l) != api.Classes || many != api.Classes || l[0] != 2 || l[13] != 15 || l[14] != 1 {
		t.Error(l, e, many)
	}
	if l, e := all(func() (int, api.Errno) { return 0, api.ErrMore }); e != api.ErrMore || l != nil {
		t.Error("of none:", l, e)
	}
}

// The chapter's way, in the source: what reads four bits is handed on as a
// method value, and is the one who asks the bits.
func TestTheSourceHandsAMethodValueOn(t *testing.T) {
	fset := token.NewFileSet()
	file, err := parser.ParseFile(fset, "lens.go", nil, 0)
	if err != nil {
		t.Fatal(err)
	}
	info := &types.Info{Selections: map[*ast.SelectorExpr]*types.Selection{}}
	// The imports are left unresolved: no selection that is asked for hangs on them.
	conf := types.Config{Error: func(error) {}}
	conf.Check("lens", fset, []*ast.File{file}, info)
	given := map[string]string{}
	asked := map[string]string{}
	for _, d := range file.Decls {
		f, ok := d.(*ast.FuncDecl)
		if !ok {
			continue
		}
		ast.Inspect(f, func(n ast.Node) bool {
			call, ok := n.(*ast.CallExpr)
			if !ok {
				return true
			}
			for _, a := range call.Args {
				s, ok := a.(*ast.SelectorExpr)
				if ok && info.Selections[s] != nil && info.Selections[s].Kind() == types.MethodVal {
					given[f.Name.Name] = types.ExprString(call.Fun) + " " + s.Sel.Name
				}
			}
			if s, ok := call.Fun.(*ast.SelectorExpr); ok && s.Sel.Name == "Get" {
				asked[f.Name.Name] = types.ExprString(call)
			}
			return true
		})
	}
	if len(given) != 1 || given["Get"] != "all next" {
		t.Error("method values handed on:", given)
	}
	if len(asked) != 1 || asked["next"] != "h.from.Get(half)" {
		t.Error("bits are asked by:", asked)
	}
}
