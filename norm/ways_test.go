package norm

import (
	"container/heap"
	"go/ast"
	"go/parser"
	"go/token"
	"go/types"
	"slices"
	"testing"
)

// The chapter's way: the heap's top is the class with the greatest number, of
// several alike the least class, however they came.
func TestQueueIsAHeap(t *testing.T) {
	want := []entry{{5, 9}, {1, 4}, {3, 4}, {0, 2}, {2, 1}, {4, 1}, {6, 0}}
	for turn := range want {
		came := slices.Concat(want[turn:], want[:turn])
		q := &queue{}
		for _, e := range came {
			heap.Push(q, e)
		}
		checkOut(t, q, want)
	}
}

func checkOut(t *testing.T, q *queue, want []entry) {
	t.Helper()
	for _, e := range want {
		if got := q.next(); got != e {
			t.Errorf("%v, want %v", got, e)
		}
	}
	if q.Len() != 0 {
		t.Errorf("%v is left", *q)
	}
}

func TestQueueOfHasEachClass(t *testing.T) {
	checkOut(t, queueOf([]int{2, 4, 1, 4, 1, 9, 0}), []entry{{5, 9}, {1, 4}, {3, 4}, {0, 2}, {2, 1}, {4, 1}, {6, 0}})
	checkOut(t, queueOf([]int{1, 2, 3, 4}), []entry{{3, 4}, {2, 3}, {1, 2}, {0, 1}})
	checkOut(t, queueOf([]int{7, 7, 7, 7, 7}), []entry{{0, 7}, {1, 7}, {2, 7}, {3, 7}, {4, 7}})
	checkOut(t, queueOf(nil), nil)
}

// One by one: each time from the greatest that there then is.
func TestLessenTakesOneByOne(t *testing.T) {
	for much, want := range [][]int{
		{3, 5, 1, 4}, {3, 4, 1, 4}, {3, 3, 1, 4}, {3, 3, 1, 3}, {2, 3, 1, 3}, {2, 2, 1, 3}, {2, 2, 1, 2}, {1, 2, 1, 2},
	} {
		l := []int{3, 5, 1, 4}
		if lessen(l, much); !slices.Equal(l, want) {
			t.Errorf("%d less: %d, want %d", much, l, want)
		}
	}
}

// The chapter's way, in the source: what is too much comes out of a heap, and
// nothing else finds the greatest.
func TestTheSourceTakesOutOfAHeap(t *testing.T) {
	file, err := parser.ParseFile(token.NewFileSet(), "norm.go", nil, 0)
	if err != nil {
		t.Fatal(err)
	}
	called := map[string][]string{}
	for _, d := range file.Decls {
		f, ok := d.(*ast.FuncDecl)
		if !ok {
			continue
		}
		ast.Inspect(f, func(n ast.Node) bool {
			if call, ok := n.(*ast.CallExpr); ok {
				called[f.Name.Name] = append(called[f.Name.Name], types.ExprString(call.Fun))
			}
			return true
		})
	}
	for _, w := range []struct{ in, call string }{
		{"Of", "lessen"}, {"Of", "hist.Order"}, {"lessen", "queueOf"}, {"lessen", "q.next"}, {"lessen", "heap.Push"},
		{"queueOf", "heap.Init"}, {"next", "heap.Pop"},
	} {
		if !slices.Contains(called[w.in], w.call) {
			t.Error(w.in, "does not call", w.call, "but", called[w.in])
		}
	}
	others := []string{"slices.Max", "slices.MaxFunc", "slices.Sort", "slices.SortFunc", "slices.SortStableFunc", "slices.Sorted", "sort.Slice", "sort.Sort", "sort.Ints"}
	for name, l := range called {
		for _, c := range l {
			if slices.Contains(others, c) {
				t.Error(name, "calls", c)
			}
		}
	}
}
