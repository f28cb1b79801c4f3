package states

import (
	"go/ast"
	"go/parser"
	"go/token"
	"go/types"
	"slices"
	"testing"

	"wringer/api"
	"wringer/spread"
)

// cells are those of 127 places of class 0, and one of class 1, at 45.
func cells(t *testing.T) []api.Cell {
	t.Helper()
	counts := make([]int, api.Classes)
	counts[0], counts[1] = 127, 1
	c, e := spread.Table(counts, 7)
	if e != api.OK {
		t.Fatal("Table:", e)
	}
	return c
}

// The chapter's way: the steps are method values, and each goes on with the
// object that it was taken from.
func TestTheStepsBackAreAMethodValue(t *testing.T) {
	l := []api.Part{{Class: 0}, {Class: 1}, {Class: 0}}
	w := writer{left: l, sources: sourcesOf(cells(t))}
	step := w.goBack
	for i, state := range []int{1, 45, 47} {
		if e := times(1, step); e != api.OK || w.state != state || len(w.left) != len(l)-1-i {
			t.Error("goBack:", e, w.state, len(w.left), "want", state)
		}
	}
	if !slices.Equal(w.vals, []uint64{0, 1, 0}) || !slices.Equal(w.lens, []int{0, 7, 0}) {
		t.Error("put:", w.vals, w.lens)
	}
	w = writer{left: []api.Part{{Class: 2}, {Class: 1}}, sources: w.sources}
	if e := times(2, w.goBack); e != api.ErrArg || w.state != 45 {
		t.Error("goBack:", e, w.state)
	}
}

func TestTheStepsForthAreAMethodValue(t *testing.T) {
	c := cells(t)
	// 1 in 7 bits, 47 in 7 bits, the mark.
	r, e := readerOf("\x02\x81\x57", c, 7)
	if e != api.OK || r.state != 47 {
		t.Fatal("readerOf:", r, e)
	}
	step := r.goForth
	for i, state := range []int{45, 1, 0} {
		if e := times(1, step); e != api.OK || r.state != state || len(r.parts) != i+1 {
			t.Error("goForth:", e, r.state, r.parts, "want", state)
		}
	}
	if !r.ended() || !slices.Equal(r.parts, []api.Part{{Class: 0}, {Class: 1}, {Class: 0}}) {
		t.Error("goForth:", r.parts)
	}
	// 0 is place 0's, whose cell has one bit more than is left.
	if e := times(5, r.goForth); e != api.ErrMore || len(r.parts) != 3 {
		t.Error("goForth:", e, r.parts)
	}
}

func TestTimesGoesUntilAStepCannotBeGone(t *testing.T) {
	gone := 0
	step := func() api.Errno {
		if gone++; gone == 4 {
			return api.ErrLimit
		}
		return api.OK
	}
	for _, c := range []struct {
		n, gone int
		e       api.Errno
	}{{0, 0, api.OK}, {1, 1, api.OK}, {2, 3, api.OK}, {9, 4, api.ErrLimit}, {3, 7, api.OK}} {
		if e := times(c.n, step); e != c.e || gone != c.gone {
			t.Error(c.n, "times:", e, gone, "want", c.e, c.gone)
		}
	}
}

// given tells, of the function called in of the source, to which functions it
// hands which method values on.
func given(t *testing.T, in string) map[string]string {
	t.Helper()
	fset := token.NewFileSet()
	file, err := parser.ParseFile(fset, "states.go", nil, 0)
	if err != nil {
		t.Fatal(err)
	}
	info := &types.Info{Selections: map[*ast.SelectorExpr]*types.Selection{}}
	// The imports are left unresolved: no selection that is asked for hangs on them.
	conf := types.Config{Error: func(error) {}}
	conf.Check("states", fset, []*ast.File{file}, info)
	to := map[string]string{}
	for _, d := range file.Decls {
		f, ok := d.(*ast.FuncDecl)
		if !ok || f.Name.Name != in {
			continue
		}
		ast.Inspect(f, func(n ast.Node) bool {
			call, ok := n.(*ast.CallExpr)
			if !ok {
				return true
			}
			for _, a := range call.Args {
				s, ok := a.(*ast.SelectorExpr)
				if ok && info.Selections[s] != nil && info.Selections[s].Kind() == types.MethodVal {
					to[types.ExprString(s)] = types.ExprString(call.Fun)
				}
			}
			return true
		})
	}
	return to
}

// The chapter's way, in the source: both calls hand their steps, as a method
// value, to the one function that goes through the parts.
func TestBothCallsHandAMethodValueOn(t *testing.T) {
	for in, step := range map[string]string{"Put": "w.goBack", "Get": "r.goForth"} {
		if got := given(t, in); len(got) != 1 || got[step] != "times" {
			t.Errorf("%s hands on %v, want %s to times", in, got, step)
		}
	}
}
