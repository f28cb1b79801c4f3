package hist

import (
	"container/heap"
	"go/ast"
	"go/parser"
	"go/token"
	"go/types"
	"slices"
	"testing"
)

// The chapter's way: the heap's top is what Order tells next, however its
// entries came.
func TestQueueIsAHeap(t *testing.T) {
	want := []entry{{5, 9}, {1, 4}, {3, 4}, {0, 2}, {2, 1}, {4, 1}}
	for turn := range want {
		came := slices.Concat(want[turn:], want[:turn])
		q := &queue{}
		for _, e := range came {
			heap.Push(q, e)
		}
		for _, e := range want {
			if got := q.next(); got != e.place {
				t.Errorf("of %v: place %d, want %d", came, got, e.place)
			}
		}
		if q.Len() != 0 {
			t.Errorf("of %v: %v is left", came, *q)
		}
	}
}

// The chapter's way, in the source: Order fills a heap and empties it, and
// nothing else puts its places in order.
func TestTheSourceOrdersByAHeap(t *testing.T) {
	file, err := parser.ParseFile(token.NewFileSet(), "hist.go", nil, 0)
	if err != nil {
		t.Fatal(err)
	}
	for _, i := range file.Imports {
		if i.Path.Value == `"sort"` || i.Path.Value == `"slices"` {
			t.Error("hist imports", i.Path.Value)
		}
	}
	called := map[string][]string{}
	for _, d := range file.Decls {
		f, ok := d.(*ast.FuncDecl)
		if !ok {
			continue
		}
		ast.Inspect(f, func(n ast.Node) bool {
			if call, ok := n.(*ast.CallExpr); ok {
				called[f.Name.Name] = append(called[f.Name.Name], types.ExprString(call.Fun))
			}
			return true
		})
	}
	if !slices.Contains(called["Order"], "heap.Push") || !slices.Contains(called["Order"], "q.next") {
		t.Error("Order calls", called["Order"])
	}
	if !slices.Contains(called["next"], "heap.Pop") {
		t.Error("next calls", called["next"])
	}
}
