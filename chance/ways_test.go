package chance

import (
	"go/ast"
	"go/parser"
	"go/token"
	"go/types"
	"slices"
	"testing"

	"wringer/api"
)

// The chapter's way: Bit and Direct are handed on as method values, and each goes
// on with the object that it was taken from.
func TestTheEncodersCallsAreHandedOn(t *testing.T) {
	y := From("\x00\x00\x00\x00\x00\x00\x00\x00")
	follow(y, y.told.Bit, 1, 1)
	if y.at != 1 || y.told.size() != 0xfffff00 || len(y.told.ahead) != 0 {
		t.Error("Bit:", y.at, y.told.size(), y.told.ahead)
	}
	follow(y, y.told.Direct, 1, 4)
	if y.at != 1+1 || y.told.size() != 0xfffff0<<8 || y.told.last != 0xfffff0<<8 {
		t.Error("Direct:", y.at, y.told.size(), y.told.last)
	}
	x := New()
	putEach(5, 3, x.Direct)
	putEach(99, 0, x.Direct)
	if x.Bytes() != "\x00\x9f\xff\xff\xfe" {
		t.Errorf("Direct: %q", x.Bytes())
	}
}

func TestTheDecodersCallIsHandedOn(t *testing.T) {
	y := From("\x00\x9f\xff\xff\xfe")
	if v, e := tellEach(3, y.Direct); v != 5 || e != api.OK {
		t.Error("Direct:", v, e)
	}
	if v, e := tellEach(0, y.Direct); v != 0 || e != api.OK {
		t.Error("Direct:", v, e)
	}
	if e := y.End(); e != api.OK {
		t.Error("End:", e)
	}
	if v, e := tellEach(64, y.Direct); v != 0 || e != api.ErrMore {
		t.Error("Direct:", v, e)
	}
}

// What is handed on by others, as one would a function of no object.
func TestAllFourAreMethodValues(t *testing.T) {
	x := New()
	bit, direct := x.Bit, x.Direct
	bit(1000, 1)
	direct(77, 9)
	bit(3, 0)
	y := From(x.Bytes())
	tellBit, tellDirect, end := y.Bit, y.Direct, y.End
	if b, e := tellBit(1000); b != 1 || e != api.OK {
		t.Error("Bit:", b, e)
	}
	if v, e := tellDirect(9); v != 77 || e != api.OK {
		t.Error("Direct:", v, e)
	}
	if b, e := tellBit(3); b != 0 || e != api.OK {
		t.Error("Bit:", b, e)
	}
	if e := end(); e != api.OK {
		t.Error("End:", e)
	}
	var none *Decoder
	if v, e := tellEach(3, none.Direct); v != 0 || e != api.ErrNone {
		t.Error("Direct of nil:", v, e)
	}
	var no *Encoder
	putEach(5, 3, no.Direct)
}

// A decoder keeps of low no more than it needs, however much it tells.
func TestADecoderKeepsNoBytesOfLow(t *testing.T) {
	x := New()
	for i := range 5000 {
		x.Bit(1+i%4095, i%2)
	}
	y := From(x.Bytes())
	for i := range 5000 {
		if b, e := y.Bit(1 + i%4095); b != i%2 || e != api.OK {
			t.Fatal("Bit:", b, e)
		}
		if len(y.told.ahead) > 0 || cap(y.told.ahead) > 16 {
			t.Fatal("kept:", len(y.told.ahead), cap(y.told.ahead))
		}
	}
	if e := y.End(); e != api.OK {
		t.Error("End:", e)
	}
}

// given tells which method values the source hands on to the function named.
func given(t *testing.T, to string) []string {
	t.Helper()
	fset := token.NewFileSet()
	file, err := parser.ParseFile(fset, "chance.go", nil, 0)
	if err != nil {
		t.Fatal(err)
	}
	info := &types.Info{Selections: map[*ast.SelectorExpr]*types.Selection{}}
	// The imports are left unresolved: no selection that is asked for hangs on them.
	conf := types.Config{Error: func(error) {}}
	conf.Check("chance", fset, []*ast.File{file}, info)
	var out []string
	ast.Inspect(file, func(n ast.Node) bool {
		call, ok := n.(*ast.CallExpr)
		if !ok || types.ExprString(call.Fun) != to {
			return true
		}
		for _, a := range call.Args {
			s, ok := a.(*ast.SelectorExpr)
			if ok && info.Selections[s] != nil && info.Selections[s].Kind() == types.MethodVal {
				out = append(out, types.ExprString(s))
			}
		}
		return true
	})
	slices.Sort(out)
	return out
}

// The chapter's way, in the source: what is told is handed on by the encoder's
// Bit and Direct, and both sides' Direct goes bit by bit by itself.
func TestTheSourceHandsBitAndDirectOn(t *testing.T) {
	for to, want := range map[string][]string{
		"follow":   {"x.told.Bit", "x.told.Direct"},
		"putEach":  {"x.Direct"},
		"tellEach": {"x.Direct"},
	} {
		if got := given(t, to); !slices.Equal(got, want) {
			t.Errorf("%s is handed %v, want %v", to, got, want)
		}
	}
}
