package huff

import (
	"go/ast"
	"go/parser"
	"go/token"
	"go/types"
	"testing"

	"wringer/api"
	"wringer/bits"
)

// codes are those of lengths 1, 2, 2: 0, 10, 11.
func codes() []api.Code { return []api.Code{{Bits: 0, Len: 1}, {Bits: 2, Len: 2}, {Bits: 3, Len: 2}} }

// The chapter's way: what is read of a code is a method value of a reader, which
// goes on with the bits that it was taken from.
func TestACodeIsReadByAMethodValue(t *testing.T) {
	r := reader{from: bits.From("\x6d"), codes: treeOf(codes())}
	bit := r.bit
	for _, want := range []int{1, 2, 0, 2} {
		if class, e := r.codes.find(bit); class != want || e != api.OK {
			t.Error(class, e, "want", want)
		}
	}
	if b, e := r.bit(); b != 0 || e != api.OK {
		t.Error("the last bit:", b, e)
	}
	if class, e := r.codes.find(bit); class != 0 || e != api.ErrMore {
		t.Error("behind the last bit:", class, e)
	}
}

// Whoever tells bits can be read from: not the bytes alone. No more of them are
// asked for than the code has.
func TestFindTakesWhateverTellsBits(t *testing.T) {
	for want, c := range codes() {
		asked := 0
		class, e := treeOf(codes()).find(func() (uint64, api.Errno) {
			asked++
			return uint64(c.Bits>>(c.Len-asked)) & 1, api.OK
		})
		if class != want || e != api.OK || asked != c.Len {
			t.Error(class, e, asked, "want", want)
		}
	}
	asked := 0
	one := func() (uint64, api.Errno) { asked++; return 1, api.OK }
	if class, e := treeOf(codes()[:1]).find(one); class != 0 || e != api.ErrForm || asked != 1 {
		t.Error("of a bit that begins no code:", class, e, asked)
	}
	none := func() (uint64, api.Errno) { return 0, api.ErrMore }
	if class, e := treeOf(nil).find(none); class != 0 || e != api.ErrMore {
		t.Error("of no bit, and no code:", class, e)
	}
}

// The chapter's way, in the source: what finds a class is given the reader's
// bits as a method value, and does not ask the bytes itself.
func TestTheSourceHandsAMethodValueOn(t *testing.T) {
	fset := token.NewFileSet()
	file, err := parser.ParseFile(fset, "huff.go", nil, 0)
	if err != nil {
		t.Fatal(err)
	}
	info := &types.Info{Selections: map[*ast.SelectorExpr]*types.Selection{}}
	// The imports are left unresolved: no selection that is asked for hangs on them.
	conf := types.Config{Error: func(error) {}}
	conf.Check("huff", fset, []*ast.File{file}, info)
	given := map[string]string{}
	asked := map[string]string{}
	for _, d := range file.Decls {
		f, ok := d.(*ast.FuncDecl)
		if !ok {
			continue
		}
		ast.Inspect(f, func(n ast.Node) bool {
			call, ok := n.(*ast.CallExpr)
			if !ok {
				return true
			}
			for _, a := range call.Args {
				s, ok := a.(*ast.SelectorExpr)
				if ok && info.Selections[s] != nil && info.Selections[s].Kind() == types.MethodVal {
					given[f.Name.Name] = types.ExprString(call.Fun) + " " + types.ExprString(s)
				}
			}
			if s, ok := call.Fun.(*ast.SelectorExpr); ok && s.Sel.Name == "Get" {
				asked[f.Name.Name] = types.ExprString(call)
			}
			return true
		})
	}
	if len(given) != 1 || given["part"] != "r.codes.find r.bit" {
		t.Error("method values handed on:", given)
	}
	if len(asked) != 2 || asked["bit"] != "r.from.Get(1)" || asked["part"] != "r.from.Get(further(class))" {
		t.Error("bits are asked by:", asked)
	}
}
