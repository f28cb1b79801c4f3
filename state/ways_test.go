package state

import (
	"go/ast"
	"go/parser"
	"go/token"
	"go/types"
	"slices"
	"strings"
	"testing"

	"wringer/xxh"
)

// The chapter's way: Write is handed on as a method value, and goes on with
// the object that it was taken from.
func TestWriteIsHandedOn(t *testing.T) {
	s := strings.Repeat("abcdefghijk", 20)
	for first := range fourBytes + 1 {
		x := New(7)
		inPieces(s, first, x.Write)
		if x.Sum() != xxh.Sum(7, s) || x.Len() != len(s) {
			t.Errorf("%d bytes first: Sum = %d, Len = %d", first, x.Sum(), x.Len())
		}
	}
}

func TestWriteOfNilIsHandedOn(t *testing.T) {
	var x *State
	inPieces(strings.Repeat("x", 100), 5, x.Write)
	if x.Sum() != 0 || x.Len() != 0 {
		t.Error("of nil:", x.Sum(), x.Len())
	}
}

// No piece goes beyond the end of a step, and all of them together are all.
func TestInPieces(t *testing.T) {
	s := strings.Repeat("0123456789", 10)
	for size := range len(s) + 1 {
		for first := 1; first <= fourBytes; first++ {
			var got []string
			inPieces(s[:size], first, func(p string) { got = append(got, p) })
			if strings.Join(got, "") != s[:size] || len(got[0]) > first {
				t.Errorf("%d bytes, %d first: %q", size, first, got)
			}
			if slices.ContainsFunc(got, func(p string) bool { return len(p) > fourBytes }) {
				t.Errorf("%d bytes, %d first: too many in one of %q", size, first, got)
			}
		}
	}
}

// The chapter's way, in the source: a call's argument is Write as a method value.
func TestTheSourceHandsWriteOn(t *testing.T) {
	fset := token.NewFileSet()
	file, err := parser.ParseFile(fset, "state.go", nil, 0)
	if err != nil {
		t.Fatal(err)
	}
	info := &types.Info{Selections: map[*ast.SelectorExpr]*types.Selection{}}
	// The imports are left unresolved: no selection that is asked for hangs on them.
	conf := types.Config{Error: func(error) {}}
	conf.Check("state", fset, []*ast.File{file}, info)
	given := 0
	ast.Inspect(file, func(n ast.Node) bool {
		call, ok := n.(*ast.CallExpr)
		if !ok {
			return true
		}
		for _, a := range call.Args {
			s, ok := a.(*ast.SelectorExpr)
			if ok && s.Sel.Name == "Write" && info.Selections[s] != nil && info.Selections[s].Kind() == types.MethodVal {
				given++
			}
		}
		return true
	})
	if given == 0 {
		t.Error("Write is handed on nowhere")
	}
}
