package merge_test

import (
	"math"
	"slices"
	"testing"

	"wringer/api"
	"wringer/hist"
	"wringer/merge"
)

// at tells Classes numbers: those of l from a place on, else 0.
func at(from int, l ...int) []int {
	freq := make([]int, api.Classes)
	copy(freq[from:], l)
	return freq
}

// alike tells n numbers that are all v.
func alike(n, v int) []int { return slices.Repeat([]int{v}, n) }

// chain tells numbers that hang on nothing but seed.
func chain(seed uint64) func(below int) int {
	return func(below int) int {
		seed = seed*6364136223846793005 + 1442695040888963407
		return int(seed >> 20 % uint64(below))
	}
}

// doubled tells n powers of 2, each of which is more than all ahead of it.
func doubled(n int) []int {
	l := make([]int, n)
	for i := range l {
		l[i] = 1 << i
	}
	return l
}

// fibonacci tells n numbers of which each is the sum of the two ahead of it:
// the least ones that unlimited codes would make the longest of.
func fibonacci(n int) []int {
	l := []int{1, 1}
	for len(l) < n {
		l = append(l, l[len(l)-1]+l[len(l)-2])
	}
	return l[:n]
}

// inOrder tells the numbers of l at the places of Order.
func inOrder(l, order []int) []int {
	out := make([]int, len(order))
	for rank, class := range order {
		out[rank] = l[class]
	}
	return out
}

// levels tells by another way the lengths that are asked for: a tree is gone
// down level by level, on each so many of the classes that are left are leaves.
type levels struct {
	behind []int // the sum of the frequencies from a place on
	limit  int
	known  map[[3]int]int
}

const never = math.MaxInt / 2

// cost tells the least that the classes from i on cost, if so many places of a
// level are open.
func (v *levels) cost(level, i, open int) int {
	left := len(v.behind) - 1 - i
	if left == 0 && open == 0 {
		return 0
	}
	if open < 1 || open > left || level > v.limit {
		return never
	}
	key := [3]int{level, i, open}
	if c, ok := v.known[key]; ok {
		return c
	}
	best := never
	for leaves := range open + 1 {
		best = min(best, v.with(level, i, open, leaves))
	}
	v.known[key] = best
	return best
}

// with tells the same, if so many of the level are leaves.
func (v *levels) with(level, i, open, leaves int) int {
	return v.behind[i+leaves] + v.cost(level+1, i+leaves, 2*(open-leaves))
}

// first tells the lengths of the frequencies f, the greatest first, of which
// there are two or more. Of those that cost alike, most leaves as far up as may
// be are the lesser lengths, held against one another from the front.
func first(f []int, limit int) []int {
	v := &levels{behind: make([]int, len(f)+1), limit: limit, known: map[[3]int]int{}}
	for i := len(f) - 1; i >= 0; i-- {
		v.behind[i] = v.behind[i+1] + f[i]
	}
	var lens []int
	for level, open := 1, 2; len(lens) < len(f); level++ {
		i, leaves := len(lens), open
		for v.with(level, i, open, leaves) != v.cost(level, i, open) {
			leaves--
		}
		lens = append(lens, alike(leaves, level)...)
		open = 2 * (open - leaves)
	}
	return lens
}

// lengths calls Lengths, and holds what each answer must be.
func lengths(t *testing.T, freq []int, limit int) []int {
	t.Helper()
	lens, e := merge.Lengths(freq, limit)
	if e != api.OK || len(lens) != api.Classes {
		t.Fatalf("Lengths(%d, %d) = %d, %d", freq, limit, lens, e)
	}
	order := hist.Order(freq)
	sum, last := 0, 1
	for _, class := range order {
		n := lens[class]
		if n < last || n > limit {
			t.Fatalf("Lengths(%d, %d) = %d: %d of class %d", freq, limit, lens, n, class)
		}
		last = n
		sum += 1 << (limit - n)
	}
	if len(order) > 1 && sum != 1<<limit {
		t.Errorf("Lengths(%d, %d) = %d: their sum is not 1", freq, limit, lens)
	}
	for class, n := range lens {
		if freq[class] == 0 && n != 0 {
			t.Errorf("Lengths(%d, %d) = %d: class %d does not come", freq, limit, lens, class)
		}
	}
	return lens
}

// check holds the lengths of two classes or more against those of another way.
func check(t *testing.T, freq []int, limit int) {
	t.Helper()
	order := hist.Order(freq)
	got := inOrder(lengths(t, freq, limit), order)
	if want := first(inOrder(freq, order), limit); !slices.Equal(got, want) {
		t.Errorf("Lengths(%d, %d): in order %d, want %d", freq, limit, got, want)
	}
}

// checkAll does so by each limit.
func checkAll(t *testing.T, freq []int) {
	t.Helper()
	for limit := api.LeastLim; limit <= api.MostLim; limit++ {
		check(t, freq, limit)
	}
}

func checkErrArg(t *testing.T, freq []int, limit int) {
	t.Helper()
	if lens, e := merge.Lengths(freq, limit); e != api.ErrArg || lens != nil {
		t.Errorf("Lengths(%d, %d) = %d, %d, want ErrArg", freq, limit, lens, e)
	}
}

func TestLengthsOfKnownFrequencies(t *testing.T) { // 8.1
	for _, c := range []struct {
		freq  []int
		limit int
		want  []int
	}{
		{at(0, 5, 3, 2), 7, at(0, 1, 2, 2)},
		{at(62, 5, 3, 2), 15, at(62, 1, 2, 2)},
		{at(0, 2, 3, 5), 9, at(0, 2, 2, 1)},
		{at(0, 3, 0, 5, 0, 0, 2), 9, at(0, 2, 0, 1, 0, 0, 2)},
		{at(0, 1, 1, 1, 1), 7, at(0, 2, 2, 2, 2)},
		{at(0, 1, 1, 1), 7, at(0, 1, 2, 2)},
		{at(0, 8, 4, 2, 1, 1), 7, at(0, 1, 2, 3, 4, 4)},
		{at(0, 45, 13, 12, 16, 9, 5), 7, at(0, 1, 3, 3, 3, 4, 4)},
		{at(0, 1, 1, 2, 4, 8, 16, 32, 64), 7, at(0, 7, 7, 6, 5, 4, 3, 2, 1)},
		{at(0, 1, 1, 2, 4, 8, 16, 32, 64, 128), 8, at(0, 8, 8, 7, 6, 5, 4, 3, 2, 1)},
		{at(0, 1, 1, 2, 4, 8, 16, 32, 64, 128), 7, at(0, 7, 7, 7, 7, 5, 4, 3, 2, 1)},
	} {
		if got := lengths(t, c.freq, c.limit); !slices.Equal(got, c.want) {
			t.Errorf("Lengths(%d, %d) = %d, want %d", c.freq, c.limit, got, c.want)
		}
	}
}

func TestLengthsOfFewClasses(t *testing.T) { // 8.1
	for limit := api.LeastLim; limit <= api.MostLim; limit++ {
		if got := lengths(t, at(0), limit); !slices.Equal(got, at(0)) {
			t.Errorf("of none: %d", got)
		}
		for class := range api.Classes {
			for _, n := range []int{1, 2, 1000, api.MaxBits} {
				if got := lengths(t, at(class, n), limit); !slices.Equal(got, at(class, 1)) {
					t.Errorf("of class %d alone: %d", class, got)
				}
				freq, want := at(class, n), at(class, 1)
				freq[(class+40)%api.Classes] = 7
				want[(class+40)%api.Classes] = 1
				if got := lengths(t, freq, limit); !slices.Equal(got, want) {
					t.Errorf("of two: %d, want %d", got, want)
				}
			}
		}
	}
}

func TestLengthsOfSomeDozens(t *testing.T) { // 8.1
	next := chain(81)
	for _, most := range []int{2, 3, 10, 1000, api.MaxBits + 1} {
		for _, many := range []int{12, 13, 24, 36, 48, 64, 65} {
			freq := at(0)
			for i := range many {
				freq[i*7%api.Classes] = next(most)
			}
			freq[0], freq[7] = 1, most-1
			checkAll(t, freq)
		}
	}
}

func TestLengthsOfManyLists(t *testing.T) { // 8.1
	next := chain(82)
	for range 3000 {
		freq := at(0)
		for range next(20) {
			freq[next(api.Classes)] = next(1 << next(25))
		}
		freq[next(10)], freq[20] = 1+next(9), 1+next(9)
		check(t, freq, api.LeastLim+next(api.MostLim-api.LeastLim+1))
	}
}

func TestLengthsOfAllAlike(t *testing.T) { // 8.1
	want := append(alike(63, 6), 7, 7)
	for limit := api.LeastLim; limit <= api.MostLim; limit++ {
		for _, n := range []int{1, 2, 1000, api.MaxBits} {
			freq := alike(api.Classes, n)
			if got := lengths(t, freq, limit); !slices.Equal(got, want) {
				t.Errorf("of all alike %d times, limit %d: %d", n, limit, got)
			}
		}
	}
	for many := 2; many <= api.Classes; many++ {
		checkAll(t, at(api.Classes-many, alike(many, 3)...))
	}
}

func TestLengthsThatAreShortened(t *testing.T) { // 8.1
	for many := 2; many <= 25; many++ {
		up := at(3, doubled(many)...)
		checkAll(t, up)
		checkAll(t, at(0, fibonacci(many)...))
		slices.Reverse(up)
		checkAll(t, up)
	}
	for limit := api.LeastLim; limit <= api.MostLim; limit++ {
		for _, many := range []int{limit, limit + 1, limit + 2} {
			longest := slices.Max(lengths(t, at(0, doubled(many)...), limit))
			if longest != min(many-1, limit) {
				t.Errorf("of %d doubled, limit %d: the longest has %d", many, limit, longest)
			}
		}
	}
	steep := append(alike(40, 1), doubled(25)...)
	checkAll(t, steep)
	checkAll(t, append(alike(61, 1), alike(4, api.MaxBits)...))
	checkAll(t, append(alike(32, api.MaxBits), alike(33, 1)...))
	checkAll(t, append(alike(32, 0), alike(33, api.MaxBits)...))
}

func TestLengthsWithNoneBetween(t *testing.T) { // 8.1
	for step := 1; step <= 9; step++ {
		freq := at(0)
		for i := 0; i < api.Classes; i += step {
			freq[i] = 1 + i*i%50
		}
		checkAll(t, freq)
		dense := slices.DeleteFunc(slices.Clone(freq), func(n int) bool { return n == 0 })
		spread := inOrder(lengths(t, freq, 9), hist.Order(freq))
		if got := inOrder(lengths(t, at(0, dense...), 9), hist.Order(dense)); !slices.Equal(got, spread) {
			t.Errorf("step %d: %d, without those that do not come %d", step, spread, got)
		}
	}
}

// Of each list there are other lengths, that cost alike and come behind.
func TestLengthsThatCostAlike(t *testing.T) { // 8.1
	for _, c := range []struct {
		freq  []int
		limit int
		want  []int
		other []int
	}{
		{at(0, 2, 2, 1, 1), 7, at(0, 1, 2, 3, 3), at(0, 2, 2, 2, 2)},
		{at(0, 1, 1, 2, 2), 7, at(0, 3, 3, 1, 2), at(0, 2, 2, 2, 2)},
		{at(0, 1, 2, 1, 2), 15, at(0, 3, 1, 3, 2), at(0, 2, 2, 2, 2)},
		{at(61, 1, 2, 1, 2), 9, at(61, 3, 1, 3, 2), at(61, 2, 2, 2, 2)},
		{at(0, 2, 1, 1, 1, 1), 7, at(0, 1, 3, 3, 3, 3), at(0, 2, 2, 2, 3, 3)},
		{at(0, 3, 3, 1, 1, 1), 7, at(0, 1, 2, 3, 4, 4), at(0, 2, 2, 2, 3, 3)},
		{at(0, 4, 4, 2, 2, 1, 1), 7, at(0, 2, 2, 2, 3, 4, 4), at(0, 2, 2, 3, 3, 3, 3)},
		{at(0, 1, 1, 1), 7, at(0, 1, 2, 2), at(0, 2, 1, 2)},
		{at(0, 1, 1, 1), 7, at(0, 1, 2, 2), at(0, 2, 2, 1)},
		{at(0, 128, 64, 32, 16, 8, 4, 4, 2, 2), 8, at(0, 1, 2, 3, 4, 5, 6, 7, 8, 8), at(0, 1, 2, 3, 4, 5, 7, 7, 7, 7)},
		{at(0, 128, 48, 32, 24, 6, 4, 2, 1, 1), 7, at(0, 1, 2, 3, 4, 5, 7, 7, 7, 7), at(0, 1, 2, 3, 4, 6, 6, 6, 7, 7)},
		{at(0, 128, 64, 32, 32, 16, 8, 3, 2, 2), 7, at(0, 1, 2, 4, 4, 4, 5, 6, 7, 7), at(0, 1, 3, 3, 3, 4, 5, 6, 7, 7)},
		{at(0, 200, 128, 64, 48, 32, 24, 12, 8, 6, 2), 7, at(0, 1, 2, 4, 4, 4, 5, 7, 7, 7, 7), at(0, 2, 2, 3, 3, 3, 4, 5, 6, 7, 7)},
	} {
		if merge.Cost(c.freq, c.other) != merge.Cost(c.freq, c.want) {
			t.Errorf("%d and %d do not cost alike", c.want, c.other)
		}
		if got := lengths(t, c.freq, c.limit); !slices.Equal(got, c.want) {
			t.Errorf("Lengths(%d, %d) = %d, want %d", c.freq, c.limit, got, c.want)
		}
		checkAll(t, c.freq)
	}
}

// Each list of up to six numbers from 0 to 4, of which two or more are above 0.
func TestLengthsOfAllShortLists(t *testing.T) { // 8.1
	var walk func([]int)
	walk = func(l []int) {
		if freq := at(1, l...); len(hist.Order(freq)) > 1 {
			check(t, freq, api.LeastLim)
		}
		if len(l) == 6 {
			return
		}
		for n := range 5 {
			walk(append(slices.Clone(l), n))
		}
	}
	walk(nil)
}

func TestLengthsAtTheEdgesOfNumbers(t *testing.T) { // 8.1
	for place := range api.Classes {
		for _, n := range []int{-1, api.MaxBits + 1, math.MinInt, math.MaxInt, -api.MaxBits, 1 << 32} {
			checkErrArg(t, at(place, n), 9)
			freq := alike(api.Classes, 5)
			freq[place] = n
			checkErrArg(t, freq, 9)
		}
		freq := alike(api.Classes, 1)
		freq[place] = api.MaxBits
		check(t, freq, 9)
	}
	checkErrArg(t, alike(api.Classes, -1), 9)
	checkErrArg(t, alike(api.Classes, api.MaxBits+1), 9)
	checkAll(t, alike(api.Classes, api.MaxBits))
}

func TestLengthsOfNotClassesNumbers(t *testing.T) { // 8.1
	for _, n := range []int{0, 1, 2, 63, 64, 66, 67, 128, 130, 1000} {
		for _, v := range []int{-1, 0, 1, api.MaxBits, api.MaxBits + 1} {
			for _, limit := range []int{0, api.LeastLim, api.MostLim} {
				checkErrArg(t, alike(n, v), limit)
			}
		}
	}
	checkErrArg(t, nil, 9)
	checkErrArg(t, []int{}, 9)
	checkErrArg(t, alike(api.Classes+1, 3)[:64], 9)
}

func TestLengthsOfALimitThatIsNone(t *testing.T) { // 8.1
	wrong := []int{api.LeastLim - 1, api.MostLim + 1, 0, 1, -1, -7, -15, 16, 63, 64, 65, 256 + 9, 1<<32 + 9, math.MinInt, math.MaxInt}
	for _, limit := range wrong {
		for _, freq := range [][]int{at(0), at(9, 4), at(9, 4, 4), at(0, 5, 3, 2), alike(api.Classes, 1), at(0, -1), nil} {
			checkErrArg(t, freq, limit)
		}
	}
}

func TestCost(t *testing.T) { // 8.2
	for _, c := range []struct {
		freq, lens []int
		want       int
	}{
		{[]int{5, 3, 2}, []int{1, 2, 2}, 15},
		{[]int{1, 2, 3}, []int{4, 5}, 14},
		{[]int{4, 5}, []int{1, 2, 3}, 14},
		{[]int{7}, []int{3, 9}, 21},
		{[]int{3, 9}, []int{7}, 21},
		{nil, nil, 0},
		{nil, []int{1}, 0},
		{[]int{1}, nil, 0},
		{[]int{}, []int{1, 2}, 0},
		{[]int{0, 0, 6}, []int{9, 9, 1}, 6},
		{[]int{-2, 3}, []int{5, -7}, -31},
		{[]int{1 << 40, 1}, []int{1 << 20, 1}, 1<<60 + 1},
		{alike(100, 3), alike(70, 2), 420},
		{alike(api.Classes, api.MaxBits), alike(api.Classes, api.MostLim), api.Classes * api.MaxBits * api.MostLim},
	} {
		if got := merge.Cost(c.freq, c.lens); got != c.want {
			t.Errorf("Cost(%d, %d) = %d, want %d", c.freq, c.lens, got, c.want)
		}
	}
	if lens := lengths(t, at(0, 5, 3, 2), 7); merge.Cost(at(0, 5, 3, 2), lens) != 15 {
		t.Error("Cost of the example's lengths:", merge.Cost(at(0, 5, 3, 2), lens))
	}
}

func TestCostOfTheGreatestNumbers(t *testing.T) { // R1
	edges := []int{math.MinInt, math.MaxInt, -1, 0, 1}
	for _, a := range edges {
		for _, b := range edges {
			if got := merge.Cost([]int{a, 1}, []int{b, 1, 9}); got != a*b+1 {
				t.Errorf("Cost of %d times %d and 1: %d", a, b, got)
			}
		}
	}
}

// cheaper tells what the least costly lengths of all cost, by trying all of
// them that codes may have: none longer than the limit, and room for each.
func cheaper(f []int, limit int) int {
	best := never
	lens := make([]int, len(f))
	var walk func(i, room int)
	walk = func(i, room int) {
		if i == len(f) {
			best = min(best, merge.Cost(f, lens))
			return
		}
		for n := 1; n <= limit; n++ {
			if need := 1 << (limit - n); need <= room {
				lens[i] = n
				walk(i+1, room-need)
			}
		}
	}
	walk(0, 1<<limit)
	return best
}

func TestNoOtherLengthsCostLess(t *testing.T) { // 8.3
	next := chain(83)
	lists := [][]int{
		{1, 1}, {1, api.MaxBits}, {5, 3, 2}, {1, 1, 1}, {2, 2, 1, 1}, {1, 2, 4, 8}, {1, 1, 1, 1}, {1, 2, 4, 8, 16},
		{1, 1, 1, 1, 1}, {api.MaxBits, api.MaxBits, 1, 1, api.MaxBits}, {1, 1, 2, 3, 5}, {9, 1, 1, 1, 9},
	}
	for range 60 {
		f := make([]int, 2+next(4))
		for i := range f {
			f[i] = 1 + next(1<<next(20))
		}
		lists = append(lists, f)
	}
	for i, f := range lists {
		limit := api.LeastLim + i%3
		freq := at(i%60, f...)
		if got, want := merge.Cost(freq, lengths(t, freq, limit)), cheaper(f, limit); got != want {
			t.Errorf("the lengths of %d, limit %d, cost %d, others %d", f, limit, got, want)
		}
	}
}

// No lengths of more classes cost less if a bit of two or three of them is
// moved, as far as codes may have them: also where the limit shortens them.
func TestNoNearLengthsCostLess(t *testing.T) { // 8.3
	for _, f := range [][]int{doubled(12), fibonacci(14), doubled(20), append(alike(8, 1), doubled(10)...)} {
		freq := at(0, f...)
		lens := lengths(t, freq, api.LeastLim)[:len(f)]
		cost := merge.Cost(f, lens)
		for n := range len(f) * len(f) * len(f) {
			near := slices.Clone(lens)
			near[n%len(f)]--
			near[n/len(f)%len(f)]++
			near[n/len(f)/len(f)]++
			if codesMayHave(near, api.LeastLim) && merge.Cost(f, near) < cost {
				t.Fatalf("the lengths of %d are %d, but %d cost less", f, lens, near)
			}
		}
	}
}

func codesMayHave(lens []int, limit int) bool {
	sum := 0
	for _, n := range lens {
		if n < 1 || n > limit {
			return false
		}
		sum += 1 << (limit - n)
	}
	return sum <= 1<<limit
}

func TestWhatIsHandedInStays(t *testing.T) { // R3
	for _, room := range [][]int{
		append(at(0, 5, 3, 2, 0, 9), 7, 7, 7), append(alike(api.Classes, 4), 1, 2), append(at(9, 4), 5), append(at(0), 5),
		append(at(64, -1), 3), append(at(0, doubled(25)...), 9),
	} {
		was := slices.Clone(room)
		for _, limit := range []int{6, 7, 15, 16} {
			merge.Lengths(room[:api.Classes], limit)
			merge.Lengths(room, limit)
			merge.Cost(room[:api.Classes], room[1:])
			merge.Cost(room, room[:3])
		}
		if !slices.Equal(room, was) {
			t.Errorf("a call changed %d to %d", was, room)
		}
	}
}

// fill writes into all of l, its spare room too.
func fill(l []int, v int) {
	l = l[:cap(l)]
	for i := range l {
		l[i] = v
	}
}

func TestWhatIsToldIsNewMemory(t *testing.T) { // R3, R5
	for _, freq := range [][]int{at(0), at(9, 4), at(9, 4, 4), at(0, 5, 3, 2), alike(api.Classes, 6), at(0, doubled(25)...)} {
		was := slices.Clone(freq)
		one, two := lengths(t, freq, 9), lengths(t, freq, 9)
		want := slices.Clone(two)
		fill(one, 99)
		if !slices.Equal(freq, was) {
			t.Errorf("Lengths of %d tells memory of what it was given", was)
		}
		if !slices.Equal(two, want) || !slices.Equal(lengths(t, freq, 9), want) {
			t.Errorf("Lengths of %d tells memory of another answer", was)
		}
		fill(freq, 99)
		if !slices.Equal(two, want) {
			t.Errorf("Lengths of %d hangs on memory of what it was given", was)
		}
	}
}
