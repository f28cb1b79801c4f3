package zig_test

import (
	"math"
	"math/big"
	"testing"

	"wringer/api"
	"wringer/zig"
)

// mapped works Map out as the document words it, in numbers that never wrap.
func mapped(v int64) *big.Int {
	n := big.NewInt(v)
	if v >= 0 {
		return n.Mul(n, big.NewInt(2))
	}
	n.Mul(n, big.NewInt(-2))
	return n.Sub(n, big.NewInt(1))
}

// split works Split out likewise.
func split(v int64) api.Part {
	n := mapped(v)
	class := n.BitLen()
	if class == 0 {
		return api.Part{}
	}
	top := new(big.Int).Lsh(big.NewInt(1), uint(class-1))
	return api.Part{Class: class, Rest: n.Sub(n, top).Uint64()}
}

// numbers are ordinary ones, the powers of two with their neighbours, and the
// ends, on both sides of 0.
func numbers() []int64 {
	l := []int64{math.MaxInt64, math.MaxInt64 - 1, math.MinInt64, math.MinInt64 + 1}
	for v := int64(-3000); v <= 3000; v++ {
		l = append(l, v)
	}
	for i := range 63 {
		p := int64(1) << i
		l = append(l, p-1, p, p+1, -p-1, -p, -p+1)
	}
	for v := int64(1); v < math.MaxInt64/7; v = v*7 + 3 {
		l = append(l, v, -v)
	}
	return l
}

func TestMapIsTwiceTheNumber(t *testing.T) { // 1.1
	for _, v := range numbers() {
		if got, want := zig.Map(v), mapped(v); !want.IsUint64() || got != want.Uint64() {
			t.Errorf("Map(%d) = %d, want %d", v, got, want)
		}
	}
}

func TestMapOfKnownNumbers(t *testing.T) { // 1.1
	for _, c := range []struct {
		v int64
		u uint64
	}{
		{0, 0}, {-1, 1}, {1, 2}, {-2, 3}, {2, 4}, {-3, 5}, {3, 6}, {-500, 999}, {500, 1000},
		{1<<62 - 1, 1<<63 - 2}, {-1 << 62, 1<<63 - 1}, {1 << 62, 1 << 63}, {-1<<62 - 1, 1<<63 + 1},
		{math.MinInt64 + 1, 1<<64 - 3}, {math.MaxInt64, 1<<64 - 2}, {math.MinInt64, 1<<64 - 1},
	} {
		if u := zig.Map(c.v); u != c.u {
			t.Errorf("Map(%d) = %d, want %d", c.v, u, c.u)
		}
		if v := zig.Back(c.u); v != c.v {
			t.Errorf("Back(%d) = %d, want %d", c.u, v, c.v)
		}
	}
}

func TestBackFindsTheNumber(t *testing.T) { // 1.1
	for _, v := range numbers() {
		if got := zig.Back(mapped(v).Uint64()); got != v {
			t.Errorf("Back(%d) = %d, want %d", mapped(v), got, v)
		}
	}
	check := func(u uint64) {
		if want := mapped(zig.Back(u)); want.Uint64() != u {
			t.Errorf("Back(%d) = %d, whose Map is %d", u, zig.Back(u), want)
		}
	}
	for u := range uint64(3000) {
		check(u)
		check(math.MaxUint64 - u)
	}
	for i := range 64 {
		p := uint64(1) << i
		check(p - 1)
		check(p)
		check(p + 1)
	}
}

func TestSplitTellsClassAndRest(t *testing.T) { // 1.2
	for _, v := range numbers() {
		if got, want := zig.Split(v), split(v); got != want {
			t.Errorf("Split(%d) = %+v, want %+v", v, got, want)
		}
	}
}

func TestSplitOfKnownNumbers(t *testing.T) { // 1.2
	for _, c := range []struct {
		v int64
		p api.Part
	}{
		{0, api.Part{Class: 0, Rest: 0}},
		{-1, api.Part{Class: 1, Rest: 0}},
		{1, api.Part{Class: 2, Rest: 0}},
		{-2, api.Part{Class: 2, Rest: 1}},
		{-3, api.Part{Class: 3, Rest: 1}},
		{-4, api.Part{Class: 3, Rest: 3}},
		{4, api.Part{Class: 4, Rest: 0}},
		{-1 << 62, api.Part{Class: 63, Rest: 1<<62 - 1}},
		{1 << 62, api.Part{Class: 64, Rest: 0}},
		{math.MaxInt64, api.Part{Class: 64, Rest: 1<<63 - 2}},
		{math.MinInt64, api.Part{Class: 64, Rest: 1<<63 - 1}},
	} {
		if p := zig.Split(c.v); p != c.p {
			t.Errorf("Split(%d) = %+v, want %+v", c.v, p, c.p)
		}
		if v, ok := zig.Join(c.p); !ok || v != c.v {
			t.Errorf("Join(%+v) = %d, %t, want %d", c.p, v, ok, c.v)
		}
	}
}

func TestJoinFindsTheNumberOfEachPart(t *testing.T) { // 1.2
	check := func(p api.Part) {
		if v, ok := zig.Join(p); !ok || split(v) != p {
			t.Errorf("Join(%+v) = %d, %t", p, v, ok)
		}
	}
	check(api.Part{})
	for class := 1; class < api.Classes; class++ {
		room := uint64(1) << (class - 1)
		for _, rest := range []uint64{0, room / 3, room / 2, room - 1} {
			check(api.Part{Class: class, Rest: rest})
		}
	}
}

func TestJoinOfNoNumber(t *testing.T) { // 1.2
	check := func(p api.Part) {
		if v, ok := zig.Join(p); ok || v != 0 {
			t.Errorf("Join(%+v) = %d, %t, want 0, false", p, v, ok)
		}
	}
	for _, rest := range []uint64{1, 2, 1 << 63, math.MaxUint64} {
		check(api.Part{Class: 0, Rest: rest})
	}
	for class := 1; class < api.Classes; class++ {
		room := uint64(1) << (class - 1)
		for _, rest := range []uint64{room, room + 1, math.MaxUint64} {
			check(api.Part{Class: class, Rest: rest})
		}
	}
	for _, class := range []int{
		-1, -2, -63, -64, -65, -256, math.MinInt32, math.MinInt,
		65, 66, 127, 128, 129, 255, 256, 257, 1 << 16, math.MaxInt32, math.MaxInt,
	} {
		for _, rest := range []uint64{0, 1, math.MaxUint64} {
			check(api.Part{Class: class, Rest: rest})
		}
	}
}

func TestJoinOfSplitIsTheNumber(t *testing.T) { // 1.3
	for _, v := range numbers() {
		if got, ok := zig.Join(zig.Split(v)); !ok || got != v {
			t.Errorf("Join(Split(%d)) = %d, %t", v, got, ok)
		}
	}
}
