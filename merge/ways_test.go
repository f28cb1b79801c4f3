package merge

import (
	"go/ast"
	"go/parser"
	"go/token"
	"go/types"
	"slices"
	"testing"
)

// The chapter's way: the heap's top is the cheapest package, of two that cost
// alike the one with fewer of Order's first classes, however they came.
func TestQueueIsAHeap(t *testing.T) {
	want := []pack{
		{1, []int{9, 9, 9}}, {2, []int{0, 0, 1}}, {2, []int{0, 1, 0}}, {2, []int{0, 1, 1}},
		{2, []int{1, 0, 0}}, {3, []int{0, 0, 0}}, {40, []int{0, 0, 1}},
	}
	for turn := range want {
		for cut := range want {
			came := slices.Concat(want[turn:], want[:turn])
			q := queueOf(came[cut:], came[:cut])
			for _, p := range want {
				if got := q.next(); got.cost != p.cost || !slices.Equal(got.times, p.times) {
					t.Errorf("of %v: %v, want %v", came, got, p)
				}
			}
			if q.Len() != 0 {
				t.Errorf("of %v: %v is left", came, *q)
			}
		}
	}
}

func TestPairsAreOfAllButOne(t *testing.T) {
	for many := range 9 {
		l := slices.Repeat([]pack{{1, []int{1}}}, many)
		if got := queueOf(l, nil).pairs(); len(got) != many/2 {
			t.Errorf("pairs of %d: %v", many, got)
		}
	}
}

func TestPairsAreTheCheapest(t *testing.T) {
	l := []pack{{9, []int{1, 0}}, {1, []int{0, 1}}, {4, []int{1, 1}}, {2, []int{0, 2}}, {7, []int{3, 0}}}
	got := queueOf(l, nil).pairs()
	if len(got) != 2 || got[0].cost != 3 || got[1].cost != 11 {
		t.Fatal("pairs:", got)
	}
	if !slices.Equal(got[0].times, []int{0, 3}) || !slices.Equal(got[1].times, []int{4, 1}) {
		t.Error("pairs:", got)
	}
}

// calls tells of each function of the source what it calls.
func calls(t *testing.T) map[string][]string {
	t.Helper()
	file, err := parser.ParseFile(token.NewFileSet(), "merge.go", nil, 0)
	if err != nil {
		t.Fatal(err)
	}
	called := map[string][]string{}
	for _, d := range file.Decls {
		f, ok := d.(*ast.FuncDecl)
		if !ok {
			continue
		}
		ast.Inspect(f, func(n ast.Node) bool {
			if call, ok := n.(*ast.CallExpr); ok {
				called[f.Name.Name] = append(called[f.Name.Name], types.ExprString(call.Fun))
			}
			return true
		})
	}
	return called
}

// The chapter's way, in the source: packages go into a heap and are merged out
// of it, and nothing else puts them in order.
func TestTheSourceMergesOutOfAHeap(t *testing.T) {
	called := calls(t)
	for _, w := range []struct{ in, call string }{
		{"queueOf", "heap.Init"}, {"next", "heap.Pop"}, {"pairs", "q.next"}, {"cheapest", "queueOf"},
		{"cheapest", "level.pairs"}, {"cheapest", "level.next"}, {"ranked", "cheapest"}, {"Lengths", "ranked"},
		{"Lengths", "hist.Order"},
	} {
		if !slices.Contains(called[w.in], w.call) {
			t.Error(w.in, "does not call", w.call, "but", called[w.in])
		}
	}
	for name, l := range called {
		for _, c := range l {
			if slices.Contains([]string{"slices.Sort", "slices.SortFunc", "slices.SortStableFunc", "slices.Sorted", "sort.Slice", "sort.Sort", "sort.Ints"}, c) {
				t.Error(name, "calls", c)
			}
		}
	}
}
