package tree

import (
	"go/ast"
	"go/parser"
	"go/token"
	"go/types"
	"slices"
	"testing"

	"wringer/api"
	"wringer/chance"
)

// The chapter's way: what a node does is a method value. It is handed to one walk
// down the nodes, and each goes on with what it was taken from.
func TestAListersNodesAreHandedOn(t *testing.T) {
	l, m := lister{class: 5}, lister{class: 64}
	add, other := l.add, m.add
	for _, c := range []struct {
		do    func(int) (int, api.Errno)
		class int
	}{{add, 5}, {other, 64}, {l.add, 5}} {
		if class, e := goDown(c.do); class != c.class || e != api.OK {
			t.Error("goDown:", class, e)
		}
	}
	if !slices.Equal(m.nodes, []int{1, 3, 6, 12, 24, 48, 96}) || !slices.Equal(m.bits, []int{1, 0, 0, 0, 0, 0, 0}) {
		t.Error("nodes of 64:", m.nodes, m.bits)
	}
	twice := []int{1, 2, 4, 8, 16, 33, 66, 1, 2, 4, 8, 16, 33, 66}
	if !slices.Equal(l.nodes, twice) || !slices.Equal(l.bits[7:], []int{0, 0, 0, 0, 1, 0, 1}) {
		t.Error("nodes of 5, twice:", l.nodes, l.bits)
	}
}

func TestAWritersNodesAreHandedOn(t *testing.T) {
	w := writer{chances: chancesOf(4), to: chance.New()}
	put := w.put
	for _, class := range []int{0, 64} {
		w.class = class
		if told, e := goDown(put); told != class || e != api.OK {
			t.Error("goDown:", told, e)
		}
	}
	if w.of[1] != 1920+136 || w.of[2] != 1920 || w.of[3] != 1920 || w.of[127] != 2048 {
		t.Error("chances behind 0 and 64:", w.of)
	}
	s, e := Put([]int{0, 64}, 4)
	if w.to.Bytes() != s || e != api.OK {
		t.Errorf("Put: %q, %d, by hand %q", s, e, w.to.Bytes())
	}
}

func TestAReadersNodesAreHandedOn(t *testing.T) {
	s, _ := Put([]int{0, 64}, 4)
	r := reader{chances: chancesOf(4), from: chance.From(s)}
	tell := r.tell
	for _, class := range []int{0, 64} {
		if told, e := goDown(tell); told != class || e != api.OK {
			t.Error("goDown:", told, e)
		}
	}
	if r.of[1] != 1920+136 || r.of[2] != 1920 || r.of[3] != 1920 || r.of[127] != 2048 {
		t.Error("chances behind 0 and 64:", r.of)
	}
	if e := r.from.End(); e != api.OK {
		t.Error("End:", e)
	}
	lost := reader{chances: chancesOf(4), from: chance.From(s[:3])}
	if told, e := goDown(lost.tell); told != 0 || e != api.ErrMore {
		t.Error("goDown of too few:", told, e)
	}
	if lost.chances != chancesOf(4) {
		t.Error("what was not told moved a chance:", lost.of)
	}
}

// The walk goes on by what a node tells, seven times, and ends at the first error.
func TestTheWalkDown(t *testing.T) {
	var at []int
	class, e := goDown(func(node int) (int, api.Errno) {
		at = append(at, node)
		return len(at) % 2, api.OK
	})
	if class != 85 || e != api.OK || !slices.Equal(at, []int{1, 3, 6, 13, 26, 53, 106}) {
		t.Error("goDown:", class, e, at)
	}
	at = nil
	class, e = goDown(func(node int) (int, api.Errno) {
		at = append(at, node)
		if len(at) == 4 {
			return 1, api.ErrForm
		}
		return 1, api.OK
	})
	if class != 0 || e != api.ErrForm || !slices.Equal(at, []int{1, 3, 7, 15}) {
		t.Error("goDown:", class, e, at)
	}
}

// handedOn tells which method values the source hands on to the function named.
func handedOn(t *testing.T, to string) []string {
	t.Helper()
	fset := token.NewFileSet()
	file, err := parser.ParseFile(fset, "tree.go", nil, 0)
	if err != nil {
		t.Fatal(err)
	}
	info := &types.Info{Selections: map[*ast.SelectorExpr]*types.Selection{}}
	// The imports are left unresolved: no selection that is asked for hangs on them.
	conf := types.Config{Error: func(error) {}}
	conf.Check("tree", fset, []*ast.File{file}, info)
	var out []string
	ast.Inspect(file, func(n ast.Node) bool {
		call, ok := n.(*ast.CallExpr)
		if !ok || types.ExprString(call.Fun) != to {
			return true
		}
		for _, a := range call.Args {
			s, ok := a.(*ast.SelectorExpr)
			if ok && info.Selections[s] != nil && info.Selections[s].Kind() == types.MethodVal {
				out = append(out, types.ExprString(s))
			}
		}
		return true
	})
	slices.Sort(out)
	return out
}

// The chapter's way, in the source: Nodes, Put and Get hand the one walk what
// their nodes do, as method values.
func TestTheSourceHandsOnWhatANodeDoes(t *testing.T) {
	if got := handedOn(t, "goDown"); !slices.Equal(got, []string{"l.add", "r.tell", "w.put"}) {
		t.Errorf("goDown is handed %v", got)
	}
}
