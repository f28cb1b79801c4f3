package xxh

import (
	"go/ast"
	"go/parser"
	"go/token"
	"go/types"
	"testing"
)

// The chapter's way: each step is a method expression, that of the four, that
// of each of them, and those of what is left behind.
func TestStepsAreMethodExpressions(t *testing.T) {
	s := "\x01\x02\x00\x00\x00\x00\x00\x00and more"
	if l, rest := next(lane(7), s, wordBytes, lane.word); uint64(l) != Round(7, 513) || rest != "and more" {
		t.Error("lane.word:", l, rest)
	}
	if h, rest := each(hash(7), s, wordBytes, hash.word); h != hash.word(hash.word(7, s[:8]), s[8:]) || rest != "" {
		t.Error("hash.word:", h, rest)
	}
	if h, rest := each(hash(7), "\x01", halfBytes, hash.half); h != 7 || rest != "\x01" {
		t.Error("hash.half of fewer bytes:", h, rest)
	}
	if h, rest := each(hash(7), "", 1, hash.single); h != 7 || rest != "" {
		t.Error("hash.single of none:", h, rest)
	}
	f, rest := next(newFour(0), s+s+"!", fourBytes, four.step)
	want := newFour(0)
	for i, word := range []string{s[:8], s[8:], s[:8], s[8:]} {
		want[i] = lane.word(want[i], word)
	}
	if f != want || rest != "!" {
		t.Error("four.step:", f, rest)
	}
}

// The chapter's way, in the source.
func TestTheSourceHasMethodExpressions(t *testing.T) {
	fset := token.NewFileSet()
	file, err := parser.ParseFile(fset, "xxh.go", nil, 0)
	if err != nil {
		t.Fatal(err)
	}
	info := &types.Info{Selections: map[*ast.SelectorExpr]*types.Selection{}}
	// The imports are left unresolved: no selection that is asked for hangs on them.
	conf := types.Config{Error: func(error) {}}
	conf.Check("xxh", fset, []*ast.File{file}, info)
	got := map[string]int{}
	for s, selected := range info.Selections {
		if selected.Kind() == types.MethodExpr {
			got[types.ExprString(s)]++
		}
	}
	for _, step := range []string{"four.step", "lane.word", "hash.lane", "hash.word", "hash.half", "hash.single"} {
		if got[step] == 0 {
			t.Errorf("%s is no method expression anywhere: %v", step, got)
		}
	}
}
