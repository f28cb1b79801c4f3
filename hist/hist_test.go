package hist_test

import (
	"math"
	"slices"
	"testing"

	"wringer/api"
	"wringer/hist"
	"wringer/zig"
)

// chain tells numbers that hang on nothing but seed.
func chain(seed uint64) func() uint64 {
	return func() uint64 {
		seed = seed*6364136223846793005 + 1442695040888963407
		return seed ^ seed>>29
	}
}

// someNumbers tells n of them, of all classes.
func someNumbers(next func() uint64, n int) []int64 {
	l := make([]int64, n)
	for i := range l {
		l[i] = zig.Back(next() >> (next() >> 20 % 65))
	}
	return l
}

// lists are those of numbers at the edges, and ordinary ones.
func lists() [][]int64 {
	l := [][]int64{
		nil, {}, {0}, {0, 0, 0}, {-1}, {7, -7, 7},
		{math.MinInt64}, {math.MaxInt64}, {math.MinInt64, math.MaxInt64, 0, math.MinInt64 + 1, math.MaxInt64 - 1},
	}
	var powers []int64
	for i := range 63 {
		p := int64(1) << i
		powers = append(powers, p-1, p, p+1, -p-1, -p, -p+1)
	}
	next := chain(71)
	return append(l, powers, someNumbers(next, 100), someNumbers(next, 5000))
}

// wrong are parts that no number has.
var wrong = []api.Part{
	{Class: -1}, {Class: -1, Rest: 1}, {Class: -64}, {Class: math.MinInt}, {Class: api.Classes}, {Class: 66},
	{Class: 256}, {Class: 257}, {Class: 1 << 32}, {Class: math.MaxInt}, {Class: math.MaxInt, Rest: math.MaxUint64},
	{Class: 0, Rest: 1}, {Class: 0, Rest: math.MaxUint64}, {Class: 1, Rest: 1}, {Class: 2, Rest: 2}, {Class: 3, Rest: 4},
	{Class: 63, Rest: 1 << 62}, {Class: 64, Rest: 1 << 63}, {Class: 64, Rest: math.MaxUint64},
}

// ordered picks the first one again and again, as the document words it.
func ordered(freq []int) []int {
	var l []int
	for range freq {
		best := -1
		for i, n := range freq {
			if n > 0 && !slices.Contains(l, i) && (best < 0 || n > freq[best]) {
				best = i
			}
		}
		if best >= 0 {
			l = append(l, best)
		}
	}
	return l
}

func checkOrder(t *testing.T, freq []int, want []int) {
	t.Helper()
	if got := hist.Order(freq); !slices.Equal(got, want) {
		t.Errorf("Order(%d) = %d, want %d", freq, got, want)
	}
}

func checkValues(t *testing.T, l []api.Part, want []int64) {
	t.Helper()
	if got, ok := hist.Values(l); !ok || !slices.Equal(got, want) {
		t.Errorf("Values(%+v) = %d, %t, want %d", l, got, ok, want)
	}
}

func checkNoValues(t *testing.T, l []api.Part) {
	t.Helper()
	if got, ok := hist.Values(l); ok || got != nil {
		t.Errorf("Values(%+v) = %d, %t, want none", l, got, ok)
	}
}

func TestPartsOfKnownNumbers(t *testing.T) { // 7.1
	l := []int64{0, -1, 1, -2, -3, 1000, math.MaxInt64, math.MinInt64, 0}
	want := []api.Part{
		{}, {Class: 1}, {Class: 2}, {Class: 2, Rest: 1}, {Class: 3, Rest: 1}, {Class: 11, Rest: 976},
		{Class: 64, Rest: 1<<63 - 2}, {Class: 64, Rest: 1<<63 - 1}, {},
	}
	if got := hist.Parts(l); !slices.Equal(got, want) {
		t.Errorf("Parts(%d) = %+v, want %+v", l, got, want)
	}
	checkValues(t, want, l)
}

func TestPartsIsSplitOfEach(t *testing.T) { // 7.1
	for _, l := range lists() {
		got := hist.Parts(l)
		if len(got) != len(l) {
			t.Fatalf("Parts of %d numbers has %d", len(l), len(got))
		}
		for i, v := range l {
			if got[i] != zig.Split(v) {
				t.Errorf("Parts: at %d %+v, want %+v", i, got[i], zig.Split(v))
			}
		}
	}
}

func TestOfNothing(t *testing.T) { // 7.1, R3
	for _, l := range [][]int64{nil, {}} {
		if got := hist.Parts(l); len(got) != 0 {
			t.Error("Parts of nothing:", got)
		}
	}
	for _, l := range [][]api.Part{nil, {}} {
		checkValues(t, l, nil)
		if got := hist.Of(l); !slices.Equal(got, make([]int, api.Classes)) {
			t.Error("Of nothing:", got)
		}
	}
	for _, l := range [][]int{nil, {}} {
		checkOrder(t, l, nil)
	}
}

// Each class' first part and its last one.
func TestValuesOfEachClass(t *testing.T) { // 7.1
	l, want := []api.Part{{}}, []int64{0}
	for class := 1; class < api.Classes; class++ {
		top := uint64(1) << (class - 1)
		l = append(l, api.Part{Class: class}, api.Part{Class: class, Rest: top - 1})
		want = append(want, zig.Back(top), zig.Back(top+top-1))
	}
	checkValues(t, l, want)
}

func TestValuesWithAPartThatHasNone(t *testing.T) { // 7.1, R4
	right := hist.Parts([]int64{5, -1000, 0, math.MinInt64})
	for _, p := range wrong {
		checkNoValues(t, []api.Part{p})
		for at := range len(right) + 1 {
			checkNoValues(t, slices.Insert(slices.Clone(right), at, p))
		}
		checkNoValues(t, []api.Part{p, p})
	}
	checkNoValues(t, wrong)
}

func TestOfIsACountByHand(t *testing.T) { // 7.1
	l := hist.Parts([]int64{0, -1, 1, -2, 1000, 0, math.MinInt64, math.MaxInt64, 1 << 62, 0})
	want := make([]int, api.Classes)
	want[0], want[1], want[2], want[11], want[64] = 3, 1, 2, 1, 3
	if got := hist.Of(l); !slices.Equal(got, want) {
		t.Errorf("Of(%+v) = %d, want %d", l, got, want)
	}
}

func TestOfCountsEachClass(t *testing.T) { // 7.1
	for _, numbers := range lists() {
		l := hist.Parts(numbers)
		got := hist.Of(l)
		if len(got) != api.Classes {
			t.Fatalf("Of has %d places", len(got))
		}
		for class, n := range got {
			want := 0
			for _, v := range numbers {
				if zig.Split(v).Class == class {
					want++
				}
			}
			if n != want {
				t.Errorf("Of: %d of class %d, want %d", n, class, want)
			}
		}
	}
}

func TestOfAClassThatIsNone(t *testing.T) { // 7.1
	for _, class := range []int{-1, -2, -64, -65, -66, api.Classes, api.Classes + 1, 127, 255, 256, 1 << 32, math.MinInt, math.MaxInt} {
		p := api.Part{Class: class}
		if got := hist.Of([]api.Part{p}); !slices.Equal(got, make([]int, api.Classes)) {
			t.Errorf("Of class %d alone: %d", class, got)
		}
		want := make([]int, api.Classes)
		want[0], want[64] = 1, 1
		if got := hist.Of([]api.Part{p, {}, p, {Class: 64}, p}); !slices.Equal(got, want) {
			t.Errorf("Of class %d among others: %d", class, got)
		}
	}
}

// The class counts, whatever the Rest: a part without a number has a class.
func TestOfDoesNotAskTheRest(t *testing.T) { // 7.1
	want := make([]int, api.Classes)
	want[0], want[3], want[64] = 2, 3, 1
	l := []api.Part{{Rest: 1}, {}, {Class: 3, Rest: 999}, {Class: 3}, {Class: 3, Rest: math.MaxUint64}, {Class: 64, Rest: math.MaxUint64}}
	if got := hist.Of(l); !slices.Equal(got, want) {
		t.Errorf("Of(%+v) = %d, want %d", l, got, want)
	}
}

func TestOrderOfKnownNumbers(t *testing.T) { // 7.1
	for _, c := range []struct{ freq, want []int }{
		{[]int{2, 0, 5}, []int{2, 0}},
		{[]int{1}, []int{0}},
		{[]int{0}, nil},
		{[]int{-1}, nil},
		{[]int{0, 0, 9, 0}, []int{2}},
		{[]int{0, -5, math.MinInt, 0}, nil},
		{[]int{3, 3, 3, 3, 3, 3, 3}, []int{0, 1, 2, 3, 4, 5, 6}},
		{[]int{4, 1, 4}, []int{0, 2, 1}},
		{[]int{4, 9, 1, 4}, []int{1, 0, 3, 2}},
		{[]int{1, 4, 2, 4, -1, 2, 1 << 60}, []int{6, 1, 3, 2, 5, 0}},
		{[]int{1, 2, 3, 4, 5}, []int{4, 3, 2, 1, 0}},
		{[]int{5, 4, 3, 2, 1}, []int{0, 1, 2, 3, 4}},
		{[]int{math.MinInt, 1, math.MaxInt, -1, math.MaxInt - 1, math.MaxInt, math.MinInt}, []int{2, 5, 4, 1}},
		{[]int{1, math.MaxInt}, []int{1, 0}},
		{[]int{math.MaxInt, math.MinInt, 1}, []int{0, 2}},
		{[]int{1 << 32, 1, 1<<32 + 1}, []int{2, 0, 1}},
	} {
		checkOrder(t, c.freq, c.want)
	}
}

// Each list of up to five numbers from -1 to 3.
func TestOrderOfAllShortLists(t *testing.T) { // 7.1
	var check func([]int)
	check = func(freq []int) {
		checkOrder(t, freq, ordered(freq))
		if len(freq) == 5 {
			return
		}
		for n := -1; n <= 3; n++ {
			check(append(slices.Clone(freq), n))
		}
	}
	check(nil)
}

func TestOrderOfSomeHundred(t *testing.T) { // 7.1
	next := chain(72)
	for _, size := range []int{64, 65, 66, 100, 257, 400} {
		for _, kinds := range []uint64{1, 2, 3, 10, 1000, 1 << 40} {
			freq := make([]int, size)
			for i := range freq {
				freq[i] = int(next()>>20%kinds) - int(kinds/4)
			}
			checkOrder(t, freq, ordered(freq))
		}
		alike := slices.Repeat([]int{7}, size)
		checkOrder(t, alike, ordered(alike))
	}
}

func TestOrderOfWhatOfTells(t *testing.T) { // 7.1
	for _, l := range lists() {
		freq := hist.Of(hist.Parts(l))
		checkOrder(t, freq, ordered(freq))
	}
}

func TestValuesOfPartsIsTheList(t *testing.T) { // 7.2
	for _, l := range lists() {
		checkValues(t, hist.Parts(l), l)
	}
}

func TestWhatIsHandedInStays(t *testing.T) { // R3
	next := chain(73)
	numbers := someNumbers(next, 50)
	parts := append(hist.Parts(numbers), wrong...)
	freq := []int{3, -1, 0, 3, 9, 1, math.MaxInt, math.MinInt}
	numbersWere, partsWere, freqWas := slices.Clone(numbers), slices.Clone(parts), slices.Clone(freq)
	hist.Parts(numbers)
	hist.Values(parts)
	hist.Values(parts[:len(numbers)])
	hist.Of(parts)
	hist.Order(freq)
	if !slices.Equal(numbers, numbersWere) || !slices.Equal(parts, partsWere) || !slices.Equal(freq, freqWas) {
		t.Error("a call changed what it was given")
	}
}

// fill writes into all of l, its spare room too.
func fill[T any](l []T, v T) {
	l = l[:cap(l)]
	for i := range l {
		l[i] = v
	}
}

// checkOwn asks twice, writes into the one answer, then into what was handed
// in: the other answer stays, and so does what was handed in.
func checkOwn[A, B comparable](t *testing.T, name string, in []A, call func([]A) []B, a A, b B) {
	t.Helper()
	was := slices.Clone(in)
	first, second := call(in), call(in)
	want := slices.Clone(second)
	fill(first, b)
	if !slices.Equal(in, was) {
		t.Error(name, "tells memory of what it was given")
	}
	if !slices.Equal(second, want) || !slices.Equal(call(in), want) {
		t.Error(name, "tells memory of another answer")
	}
	fill(in, a)
	if !slices.Equal(second, want) {
		t.Error(name, "tells what hangs on memory of what it was given")
	}
}

func TestWhatIsToldIsNewMemory(t *testing.T) { // R3, R5
	part := api.Part{Class: 9, Rest: 99}
	values := func(l []api.Part) []int64 {
		got, _ := hist.Values(l)
		return got
	}
	for _, size := range []int{0, 1, 2, 65, 100} {
		l := someNumbers(chain(74), size)
		checkOwn(t, "Of", hist.Parts(l), hist.Of, part, 99)
		checkOwn(t, "Values", hist.Parts(l), values, part, 99)
		freq := make([]int, size)
		for i := range freq {
			freq[i] = i%7 + 1
		}
		checkOwn(t, "Order", freq, hist.Order, 99, 99)
		checkOwn(t, "Parts", l, hist.Parts, 99, part)
	}
}
