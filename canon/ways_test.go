package canon

import (
	"go/ast"
	"go/parser"
	"go/token"
	"go/types"
	"slices"
	"strings"
	"testing"
)

// The chapter's way: the heap's top is the shortest, of two alike the lesser
// class, however the lengths stand.
func TestQueueIsAHeap(t *testing.T) {
	for _, c := range []struct {
		lens []int
		want []entry
	}{
		{nil, nil},
		{[]int{0, 0}, nil},
		{[]int{0, 1, 0}, []entry{{1, 1}}},
		{[]int{1, 2, 3}, []entry{{0, 1}, {1, 2}, {2, 3}}},
		{[]int{3, 2, 1}, []entry{{2, 1}, {1, 2}, {0, 3}}},
		{[]int{4, 4, 4, 4, 4}, []entry{{0, 4}, {1, 4}, {2, 4}, {3, 4}, {4, 4}}},
		{[]int{3, 0, 1, 3, 2, 0, 3, 2, 15}, []entry{{2, 1}, {4, 2}, {7, 2}, {0, 3}, {3, 3}, {6, 3}, {8, 15}}},
	} {
		var got []entry
		for q := queueOf(c.lens); q.Len() > 0; {
			got = append(got, q.next())
		}
		if !slices.Equal(got, c.want) {
			t.Errorf("of %d: %v, want %v", c.lens, got, c.want)
		}
	}
}

// calls tells of each function of the source what it calls.
func calls(file *ast.File) map[string][]string {
	called := map[string][]string{}
	for _, d := range file.Decls {
		f, ok := d.(*ast.FuncDecl)
		if !ok {
			continue
		}
		ast.Inspect(f, func(n ast.Node) bool {
			if call, ok := n.(*ast.CallExpr); ok {
				called[f.Name.Name] = append(called[f.Name.Name], types.ExprString(call.Fun))
			}
			return true
		})
	}
	return called
}

// The chapter's way, in the source: classes go into a heap and come out of it,
// and nothing else puts them in order.
func TestTheSourceOrdersByAHeap(t *testing.T) {
	file, err := parser.ParseFile(token.NewFileSet(), "canon.go", nil, 0)
	if err != nil {
		t.Fatal(err)
	}
	called := calls(file)
	for _, w := range []struct{ in, call string }{
		{"queueOf", "heap.Push"}, {"next", "heap.Pop"}, {"Codes", "queueOf"}, {"Codes", "q.next"}, {"Codes", "May"},
	} {
		if !slices.Contains(called[w.in], w.call) {
			t.Error(w.in, "does not call", w.call, "but", called[w.in])
		}
	}
	for name, l := range called {
		for _, c := range l {
			if strings.HasPrefix(c, "slices.Sort") || strings.HasPrefix(c, "sort.") {
				t.Error(name, "calls", c)
			}
		}
	}
}
