package canon_test

import (
	"cmp"
	"fmt"
	"math"
	"slices"
	"strings"
	"testing"

	"wringer/api"
	"wringer/canon"
)

// at tells Classes numbers: those of l from a place on, else 0.
func at(from int, l ...int) []int {
	lens := make([]int, api.Classes)
	copy(lens[from:], l)
	return lens
}

// alike tells n numbers that are all v.
func alike(n, v int) []int { return slices.Repeat([]int{v}, n) }

// chain tells numbers that hang on nothing but seed.
func chain(seed uint64) func(below int) int {
	return func(below int) int {
		seed = seed*6364136223846793005 + 1442695040888963407
		return int(seed >> 20 % uint64(below))
	}
}

// deep tells the lengths of codes of which each is a bit longer than the one
// ahead, but the last one.
func deep(most int) []int {
	var l []int
	for n := 1; n <= most; n++ {
		l = append(l, n)
	}
	return append(l, most)
}

// wide tells lengths of all classes, the longest of which are of MostLim.
func wide() []int {
	return slices.Concat(deep(api.MostLim)[3:], alike(48, 6), alike(4, 5))
}

// grown tells lengths of so many classes, two or more, that fill all codes: of
// those of two classes one is split again and again.
func grown(next func(int) int, many int) []int {
	l := []int{1, 1}
	for len(l) < many {
		if i := next(len(l)); l[i] < api.MostLim {
			l[i]++
			l = append(l, l[i])
		}
	}
	return l
}

// scattered tells Classes numbers: those of l, each at a place of chance, else 0.
func scattered(next func(int) int, l []int) []int {
	lens := at(0, l...)
	for i := range lens {
		j := i + next(len(lens)-i)
		lens[i], lens[j] = lens[j], lens[i]
	}
	return lens
}

// mixed are lengths that may be, of few classes and of many.
func mixed(seed uint64) [][]int {
	lists := [][]int{
		at(0), at(0, 1), at(30, 1), at(64, 1), at(0, 1, 1), at(63, 1, 1), at(0, 1, 2, 2), at(0, 2, 1, 2), at(62, 2, 2, 1),
		at(0, deep(api.MostLim)...), at(49, deep(api.MostLim)...), wide(), at(0, alike(64, 6)...), at(1, alike(64, 6)...),
		append(alike(63, 6), 7, 7), append([]int{7, 7}, alike(63, 6)...), at(0, alike(32, 5)...),
	}
	next := chain(seed)
	for many := 2; many <= api.Classes; many++ {
		for range 8 {
			lists = append(lists, scattered(next, grown(next, many)))
		}
	}
	return lists
}

// fills tells by another way whether lens may be: by fractions, which a float
// holds without loss.
func fills(lens []int) bool {
	sum, many := 0.0, 0
	for _, n := range lens {
		if n < 0 || n > 15 {
			return false
		}
		if n > 0 {
			many++
			sum += math.Ldexp(1, -n)
		}
	}
	return len(lens) == 65 && (sum == 1 || many == 0 || many == 1 && sum == 0.5)
}

// expected tells by another way the codes of lengths that may be: each one is
// the sum of the shares of those ahead of it, cut to its length.
func expected(lens []int) []api.Code {
	classes := make([]int, len(lens))
	for i := range classes {
		classes[i] = i
	}
	slices.SortStableFunc(classes, func(a, b int) int { return cmp.Compare(lens[a], lens[b]) })
	codes := make([]api.Code, len(lens))
	ahead := 0.0
	for _, class := range classes {
		if n := lens[class]; n > 0 {
			codes[class] = api.Code{Bits: int(math.Ldexp(ahead, n)), Len: n}
			ahead += math.Ldexp(1, -n)
		}
	}
	return codes
}

// text tells the bits of a code, the first one first.
func text(c api.Code) string {
	if c.Len == 0 {
		return ""
	}
	return fmt.Sprintf("%0*b", c.Len, c.Bits)
}

func codes(t *testing.T, lens []int) []api.Code {
	t.Helper()
	l, e := canon.Codes(lens)
	if e != api.OK || len(l) != api.Classes {
		t.Fatalf("Codes(%d) = %v, %d", lens, l, e)
	}
	return l
}

// checkMay holds both calls: Codes has an answer where May says so.
func checkMay(t *testing.T, lens []int, want bool) {
	t.Helper()
	if got := canon.May(lens); got != want {
		t.Errorf("May(%d) = %t", lens, got)
	}
	l, e := canon.Codes(lens)
	if want && (e != api.OK || len(l) != api.Classes) {
		t.Errorf("Codes(%d) = %v, %d", lens, l, e)
	}
	if !want && (e != api.ErrForm || l != nil) {
		t.Errorf("Codes(%d) = %v, %d, want ErrForm", lens, l, e)
	}
}

func checkCodes(t *testing.T, lens []int, want []api.Code) {
	t.Helper()
	checkMay(t, lens, true)
	if got := codes(t, lens); !slices.Equal(got, want) {
		t.Errorf("Codes(%d) = %v, want %v", lens, got, want)
	}
}

// checkTexts does so with the bits of codes from a place on; of all others there
// are none.
func checkTexts(t *testing.T, from int, lens []int, want ...string) {
	t.Helper()
	for class, c := range codes(t, lens) {
		w := ""
		if class >= from && class < from+len(want) {
			w = want[class-from]
		}
		if text(c) != w || c.Len != len(w) || w == "" && c != (api.Code{}) {
			t.Errorf("Codes(%d): class %d has %v, want %q", lens, class, c, w)
		}
	}
}

func TestCodesOfKnownLengths(t *testing.T) { // 9.1
	checkTexts(t, 0, at(0, 1, 2, 2), "0", "10", "11")
	checkTexts(t, 62, at(62, 1, 2, 2), "0", "10", "11")
	checkTexts(t, 0, at(0, 2, 1, 2), "10", "0", "11")
	checkTexts(t, 0, at(0, 2, 2, 1), "10", "11", "0")
	checkTexts(t, 0, at(0, 3, 3, 2, 1), "110", "111", "10", "0")
	checkTexts(t, 5, at(5, 2, 2, 2, 2), "00", "01", "10", "11")
	checkTexts(t, 0, at(0, 3, 1, 3, 3, 3), "100", "0", "101", "110", "111")
	checkTexts(t, 0, at(0, 4, 2, 4, 2, 2, 4, 4), "1100", "00", "1101", "01", "10", "1110", "1111")
	checkTexts(t, 9, at(9, 1, 4, 4, 4, 4, 4, 4, 4, 4), "0", "1000", "1001", "1010", "1011", "1100", "1101", "1110", "1111")
}

// By hand: by lengths, then by classes, counted on.
func TestCodesOfADozenClasses(t *testing.T) { // 9.1
	want := map[int]string{
		5: "00",
		2: "010", 7: "011", 12: "100",
		4: "1010", 10: "1011", 41: "1100",
		0: "11010", 8: "11011", 40: "11100", 63: "11101",
		3: "111100", 6: "111101", 11: "111110", 64: "111111",
	}
	lens := at(0)
	for class, s := range want {
		lens[class] = len(s)
	}
	for class, c := range codes(t, lens) {
		if text(c) != want[class] || c.Len != len(want[class]) {
			t.Errorf("class %d has %v, want %q", class, c, want[class])
		}
	}
}

// Each one is one more than the one ahead, times 2 to the power of as many as
// its Len is more.
func TestCodesAreCountedOn(t *testing.T) { // 9.1
	for _, lens := range mixed(91) {
		l := codes(t, lens)
		bits, last, first := 0, 0, true
		for n := 1; n <= api.MostLim; n++ {
			for class, c := range l {
				if lens[class] != n {
					continue
				}
				if !first {
					bits = (bits + 1) * int(math.Pow(2, float64(n-last)))
				}
				if c != (api.Code{Bits: bits, Len: n}) {
					t.Errorf("Codes(%d): class %d has %v, want %d of %d bits", lens, class, c, bits, n)
				}
				last, first = n, false
			}
		}
	}
}

func TestCodesOfManyLists(t *testing.T) { // 9.1
	for _, lens := range mixed(92) {
		checkCodes(t, lens, expected(lens))
	}
}

func TestTheLastCodeIsAllOnes(t *testing.T) { // 9.1
	for _, lens := range mixed(93) {
		longest := slices.Max(lens)
		if len(slices.DeleteFunc(slices.Clone(lens), func(n int) bool { return n == 0 })) < 2 {
			continue
		}
		last := 0
		for class, n := range lens {
			if n == longest {
				last = class
			}
		}
		if got := text(codes(t, lens)[last]); got != strings.Repeat("1", longest) {
			t.Errorf("Codes(%d): the last one, of class %d, is %s", lens, last, got)
		}
	}
}

func TestAllLengthsAreNoughts(t *testing.T) { // 9.1
	checkCodes(t, at(0), make([]api.Code, api.Classes))
}

func TestOneClassAlone(t *testing.T) { // 9.1
	for class := range api.Classes {
		want := make([]api.Code, api.Classes)
		want[class] = api.Code{Bits: 0, Len: 1}
		checkCodes(t, at(class, 1), want)
		for n := 2; n <= api.MostLim; n++ {
			checkMay(t, at(class, n), false)
		}
	}
}

func TestTwoClasses(t *testing.T) { // 9.1
	for a := range api.Classes {
		for b := range a {
			lens, want := at(a, 1), make([]api.Code, api.Classes)
			lens[b] = 1
			want[b], want[a] = api.Code{Bits: 0, Len: 1}, api.Code{Bits: 1, Len: 1}
			checkCodes(t, lens, want)
			lens[b] = 2
			checkMay(t, lens, false)
			lens[a] = 2
			checkMay(t, lens, false)
		}
	}
}

func TestTheLongestCodes(t *testing.T) { // 9.1
	l := codes(t, at(7, deep(api.MostLim)...))
	for i := range api.MostLim {
		if want := strings.Repeat("1", i) + "0"; text(l[7+i]) != want {
			t.Errorf("of deep ones class %d has %v, want %s", 7+i, l[7+i], want)
		}
	}
	if l[22] != (api.Code{Bits: 1<<api.MostLim - 1, Len: api.MostLim}) {
		t.Error("of deep ones the last one is", l[22])
	}
	for most := 1; most <= api.MostLim; most++ {
		lens := at(3, deep(most)...)
		checkCodes(t, lens, expected(lens))
		slices.Reverse(lens)
		checkCodes(t, lens, expected(lens))
	}
}

func TestCodesOfAllClasses(t *testing.T) { // 9.1
	lens := wide()
	l := codes(t, lens)
	if l[11] != (api.Code{Bits: 1<<api.MostLim - 2, Len: api.MostLim}) || l[12] != (api.Code{Bits: 1<<api.MostLim - 1, Len: api.MostLim}) {
		t.Error("of wide ones the longest are", l[11], l[12])
	}
	if l[0] != (api.Code{Bits: 0, Len: 4}) || l[1] != (api.Code{Bits: 2, Len: 5}) || l[61] != (api.Code{Bits: 3, Len: 5}) {
		t.Error("of wide ones the shortest are", l[0], l[1], l[61])
	}
	checkCodes(t, lens, expected(lens))
	slices.Reverse(lens)
	checkCodes(t, lens, expected(lens))
}

func TestAClassOfLengthNoughtBetweenOthers(t *testing.T) { // 9.1
	checkTexts(t, 0, at(0, 0, 1, 0, 2, 0, 0, 2, 0), "", "0", "", "10", "", "", "11")
	for _, lens := range mixed(94) {
		for class, c := range codes(t, lens) {
			if c.Len != lens[class] || lens[class] == 0 && c.Bits != 0 {
				t.Errorf("Codes(%d): class %d has %v", lens, class, c)
			}
		}
	}
}

func TestASumThatIsNotOne(t *testing.T) { // 9.1
	for _, l := range [][]int{
		{1, 2}, {2, 2}, {2, 2, 2}, {1, 1, 1}, {1, 1, 2}, {1, 2, 2, 15}, {1, 1, 15}, {1, 2, 3}, {15, 15},
		{1, 1, 1, 1}, {1, 1, 2, 2, 2, 2}, alike(4, 1), alike(65, 1), alike(65, 6), alike(63, 6), alike(65, 15), alike(65, 7),
		deep(15)[:15], deep(15)[1:], append(deep(15), 15), append(deep(14)[:14], 15), append(deep(14), 15),
	} {
		checkMay(t, at(0, l...), false)
		checkMay(t, at(api.Classes-len(l), l...), false)
	}
	checkMay(t, append(alike(64, 6), 15), false)
	checkMay(t, append([]int{15}, alike(64, 6)...), false)
	checkMay(t, append(alike(64, 6), 0), true)
	checkMay(t, append([]int{0}, alike(64, 6)...), true)
}

// One of the lengths is turned: only by chance they still may be.
func TestLengthsWithOneThatIsTurned(t *testing.T) { // 9.1
	next := chain(95)
	for _, lens := range mixed(96) {
		for n := -1; n <= api.MostLim+1; n++ {
			turned := slices.Clone(lens)
			turned[next(len(turned))] = n
			checkMay(t, turned, fills(turned))
		}
	}
}

// Each list of six numbers from 0 to 4, and each of four from -1 to 16.
func TestAllShortLists(t *testing.T) { // 9.1
	var walk func(l []int, from, to, many int)
	walk = func(l []int, from, to, many int) {
		if len(l) < many {
			for n := from; n <= to; n++ {
				walk(append(slices.Clone(l), n), from, to, many)
			}
			return
		}
		lens := at(59, l...)
		if fills(lens) {
			checkCodes(t, lens, expected(lens))
		} else if canon.May(lens) {
			t.Errorf("May(%d)", lens)
		}
	}
	walk(nil, 0, 4, 6)
	walk(nil, -1, 16, 4)
}

func TestALengthThatIsNone(t *testing.T) { // 9.1, R1
	wrong := []int{
		-1, -2, -15, -64, api.MostLim + 1, api.MostLim + 2, 31, 32, 33, 62, 63, 64, 65, 255, 256, 257, 1 << 32, 1<<32 + 1,
		math.MinInt, math.MinInt + 1, math.MaxInt, math.MaxInt - 1,
	}
	for _, n := range wrong {
		for place := range api.Classes {
			checkMay(t, at(place, n), false)
		}
		checkMay(t, at(0, n, 1, 1), false)
		checkMay(t, append(at(0, 1, 1)[:64], n), false)
		checkMay(t, at(0, n, 1), false)
		checkMay(t, append(at(0, 1)[:64], n), false)
		checkMay(t, at(0, n, n), false)
		checkMay(t, append(alike(64, 6), n), false)
		checkMay(t, append([]int{n}, alike(64, 6)...), false)
		checkMay(t, append([]int{n}, at(0, deep(15)...)[:64]...), false)
		checkMay(t, alike(api.Classes, n), false)
	}
	// Their sum is 1, but the longest are too long.
	checkMay(t, at(0, deep(api.MostLim+1)...), false)
	checkMay(t, at(api.Classes-17, deep(api.MostLim+1)...), false)
}

func TestNotClassesNumbers(t *testing.T) { // 9.1, R3
	for _, n := range []int{0, 1, 2, 3, 4, 16, 63, 64, 66, 67, 128, 130, 256 + 65, 1 << 16} {
		for _, v := range []int{-1, 0, 1, 2, 6, 15, 16} {
			checkMay(t, alike(n, v), false)
		}
	}
	for _, l := range [][]int{nil, {}, {1}, {1, 1}, {1, 2, 2}, deep(15), alike(64, 6), append(alike(64, 6), 0, 0)} {
		checkMay(t, l, false)
	}
	for _, lens := range mixed(97) {
		checkMay(t, lens[:64], false)
		checkMay(t, lens[1:], false)
		checkMay(t, append(slices.Clone(lens), 0), false)
		checkMay(t, append([]int{0}, lens...), false)
		checkMay(t, append(slices.Clone(lens), lens...), false)
	}
}

func TestNoCodeBeginsAnotherOne(t *testing.T) { // 9.2
	for _, lens := range mixed(98) {
		var texts []string
		for class, c := range codes(t, lens) {
			if c.Len != 0 && (c.Bits < 0 || c.Bits >= 1<<c.Len) {
				t.Errorf("Codes(%d): class %d has %v, of more bits", lens, class, c)
			}
			if lens[class] != 0 {
				texts = append(texts, text(c))
			}
		}
		for i, a := range texts {
			for j, b := range texts {
				if i != j && strings.HasPrefix(b, a) {
					t.Errorf("Codes(%d): %s begins %s", lens, a, b)
				}
			}
		}
	}
}

// Whatever bits come, exactly one code begins them.
func TestEachRowOfBitsBeginsWithOneCode(t *testing.T) { // 9.2
	for _, lens := range [][]int{at(0, 1, 1), at(0, 1, 2, 2), at(9, deep(api.MostLim)...), wide(), at(1, alike(64, 6)...)} {
		times := make([]int, 1<<api.MostLim)
		for _, c := range codes(t, lens) {
			if c.Len == 0 {
				continue
			}
			for row := range times {
				if row>>(api.MostLim-c.Len) == c.Bits {
					times[row]++
				}
			}
		}
		if slices.Min(times) != 1 || slices.Max(times) != 1 {
			t.Errorf("Codes(%d): rows begin with %d to %d codes", lens, slices.Min(times), slices.Max(times))
		}
	}
}

func TestWhatIsHandedInStays(t *testing.T) { // R3
	for _, l := range append(mixed(99), at(0, 3, 1), at(64, -1), at(0, 16), alike(api.Classes, 1)) {
		room := append(slices.Clone(l), 7, 1, 2)
		was := slices.Clone(room)
		canon.May(room[:api.Classes])
		canon.Codes(room[:api.Classes])
		canon.May(room[:64])
		canon.Codes(room[1:])
		if !slices.Equal(room, was) {
			t.Errorf("a call changed %d to %d", was, room)
		}
	}
}

// What lies behind a list's end is none of it.
func TestSpareRoomIsNotAsked(t *testing.T) { // R3
	for _, l := range mixed(100) {
		room := append(slices.Clone(l), alike(65, 1)...)
		checkCodes(t, room[:api.Classes], codes(t, l))
	}
}

// overwrite writes into all of l, its spare room too.
func overwrite[T any](l []T, v T) {
	l = l[:cap(l)]
	for i := range l {
		l[i] = v
	}
}

func TestWhatIsToldIsNewMemory(t *testing.T) { // R3, R5
	for _, lens := range mixed(101) {
		was := slices.Clone(lens)
		one, two := codes(t, lens), codes(t, lens)
		want := slices.Clone(two)
		overwrite(one, api.Code{Bits: 99, Len: 9})
		if !slices.Equal(lens, was) {
			t.Errorf("Codes of %d tells memory of what it was given", was)
		}
		if !slices.Equal(two, want) || !slices.Equal(codes(t, lens), want) {
			t.Errorf("Codes of %d tells memory of another answer", was)
		}
		overwrite(lens, 99)
		if !slices.Equal(two, want) {
			t.Errorf("Codes of %d hangs on memory of what it was given", was)
		}
	}
}
