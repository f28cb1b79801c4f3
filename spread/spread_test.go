package spread_test

import (
	"math"
	"slices"
	"strconv"
	"strings"
	"testing"

	"wringer/api"
	"wringer/norm"
	"wringer/spread"
)

// at tells Classes numbers: those of l from a place on, else 0.
func at(from int, l ...int) []int {
	out := make([]int, api.Classes)
	copy(out[from:], l)
	return out
}

// alike tells n numbers that are all v.
func alike(n, v int) []int { return slices.Repeat([]int{v}, n) }

// with tells l with v at a place.
func with(l []int, place, v int) []int {
	l = slices.Clone(l)
	l[place] = v
	return l
}

// chain tells numbers that hang on nothing but seed.
func chain(seed uint64) func(below int) int {
	return func(below int) int {
		seed = seed*6364136223846793005 + 1442695040888963407
		return int(seed >> 20 % uint64(below))
	}
}

// logs are all that there are.
func logs() []int {
	var l []int
	for log := api.LeastLog; log <= api.MostLog; log++ {
		l = append(l, log)
	}
	return l
}

// noLogs are some of those that there are not.
var noLogs = []int{api.LeastLog - 1, api.MostLog + 1, 0, 1, 3, -1, -7, 16, 62, 63, 64, 65, 71, 1<<32 + 7, math.MinInt, math.MinInt + 7, math.MaxInt}

// further is how much further the walk goes each time, by log, by hand.
var further = map[int]int{7: 64 + 16 + 3, 8: 128 + 32 + 3, 9: 256 + 64 + 3, 10: 512 + 128 + 3, 11: 1024 + 256 + 3, 12: 2048 + 512 + 3}

func total(l []int) int {
	all := 0
	for _, n := range l {
		all += n
	}
	return all
}

// classAt tells whose the turn with the number i is, of each class in order as
// many as l says.
func classAt(l []int, i int) int {
	class := 0
	for ; i >= l[class]; class++ {
		i -= l[class]
	}
	return class
}

// turns tells with which turn each place is come to.
func turns(log int) []int {
	l := alike(1<<log, -1)
	for i := range l {
		l[i*further[log]%len(l)] = i
	}
	return l
}

// classed works Spread out place by place: each one's turn is looked for, and
// then its class.
func classed(l []int, log int) []int {
	out := turns(log)
	for place, i := range out {
		out[place] = classAt(l, i)
	}
	return out
}

// count tells how many of class stand in classes.
func count(classes []int, class int) int {
	n := 0
	for _, c := range classes {
		if c == class {
			n++
		}
	}
	return n
}

// cell works a place's cell out of the digits of x: as many zeros as there are
// Bits behind them make log+1 digits, and size is the first one of those.
func cell(class, x, log int) api.Cell {
	digits := strconv.FormatInt(int64(x), 2)
	zeros := log + 1 - len(digits)
	base, _ := strconv.ParseInt("0"+digits[1:]+strings.Repeat("0", zeros), 2, 64)
	return api.Cell{Class: class, Bits: zeros, Base: int(base)}
}

// celled works Table out of classes as the document words it.
func celled(l, classes []int, log int) []api.Cell {
	out, ahead := make([]api.Cell, len(classes)), map[int]int{}
	for place, class := range classes {
		out[place] = cell(class, l[class]+ahead[class], log)
		ahead[class]++
	}
	return out
}

// counts are those of all kinds whose sum is 2 to the power of log: of few
// classes, of all, alike, rare, common, each from another place on.
func counts(seed uint64, log int) [][]int {
	size := 1 << log
	lists := [][]int{
		at(0, size), at(30, size), at(64, size), at(0, size-1, 1), at(0, 1, size-1), at(63, 1, size-1), at(0, size/2, size/2),
		with(at(0, 1), 64, size-1), with(at(0, size-1), 64, 1), with(alike(65, 1), 0, size-64), with(alike(65, 1), 64, size-64),
		with(alike(65, 1), 33, size-64), at(3, 1, 1, size-2), at(0, size/4, 0, 0, size/4, 0, size/2), at(10, size/2-1, 0, size/2+1),
		at(10, size/2+1, 0, size/2-1), at(0, size/4, size/4-1, size/4+1, size/4), at(5, size/8+1, size/8-1, 3*size/4),
	}
	next := chain(seed + uint64(log))
	for range 60 {
		freq := at(0)
		most := []int{2, 10, 1000, api.MaxBits + 1}[next(4)]
		for range 1 + next(90) {
			freq[next(len(freq))] = next(most)
		}
		freq[next(len(freq))] = 1
		l, _ := norm.Of(freq, log)
		lists = append(lists, l)
	}
	return lists
}

// eachCounts goes through counts of all logs.
func eachCounts(seed uint64, do func(l []int, log int)) {
	for _, log := range logs() {
		for _, l := range counts(seed, log) {
			do(l, log)
		}
	}
}

func checkSpread(t *testing.T, l []int, log int, want []int) {
	t.Helper()
	if got, e := spread.Spread(l, log); e != api.OK || !slices.Equal(got, want) {
		t.Errorf("Spread(%d, %d) = %d, %d, want %d", l, log, got, e, want)
	}
}

func checkTable(t *testing.T, l []int, log int, want []api.Cell) {
	t.Helper()
	if got, e := spread.Table(l, log); e != api.OK || !slices.Equal(got, want) {
		t.Errorf("Table(%d, %d) = %d, %d, want %d", l, log, got, e, want)
	}
}

// checkNeither asks both calls for ErrForm, and no list.
func checkNeither(t *testing.T, l []int, log int) {
	t.Helper()
	if got, e := spread.Spread(l, log); e != api.ErrForm || got != nil {
		t.Errorf("Spread(%d, %d) = %d, %d, want ErrForm", l, log, got, e)
	}
	if got, e := spread.Table(l, log); e != api.ErrForm || got != nil {
		t.Errorf("Table(%d, %d) = %d, %d, want ErrForm", l, log, got, e)
	}
}

// By hand: of 128 the walk goes 83 further each time, so that it comes to the
// places 0, 83, 38, 121, 76, 31, 114, 69, 24, 107, .. and to 45 last.
func TestSpreadOfTwoClasses(t *testing.T) { // 13.1
	checkSpread(t, at(0, 127, 1), 7, with(alike(128, 0), 45, 1))
	checkSpread(t, at(0, 1, 127), 7, with(alike(128, 1), 0, 0))
	checkSpread(t, at(8, 127, 0, 0, 1), 7, with(alike(128, 8), 45, 11))
	want := alike(128, 64)
	for _, place := range []int{0, 83, 38, 121, 76, 31, 114, 69, 24, 107} {
		want[place] = 2
	}
	checkSpread(t, with(at(2, 10), 64, 118), 7, want)
}

// By hand, place by place: a half each, of which the second one's turns are
// those from the 64th on.
func TestSpreadOfTwoHalves(t *testing.T) { // 13.1
	l, e := spread.Spread(at(0, 64, 64), 7)
	if e != api.OK || len(l) != 128 {
		t.Fatal("Spread:", l, e)
	}
	for place, class := range l {
		turn := 0
		for where := 0; where != place; where = (where + 83) % 128 {
			turn++
		}
		if class != turn/64 {
			t.Errorf("at %d, the turn %d, is %d", place, turn, class)
		}
	}
}

// By hand: three classes, in the order of the classes, each one's places.
func TestSpreadOfThreeClasses(t *testing.T) { // 13.1
	l := at(3, 2, 3, 123)
	want := alike(128, 5)
	want[0], want[83] = 3, 3
	want[38], want[121], want[76] = 4, 4, 4
	checkSpread(t, l, 7, want)
	// Of 256: 163 further each time, 0, 163, 70, 233, 140.
	want = alike(256, 5)
	want[0], want[163] = 3, 3
	want[70], want[233], want[140] = 4, 4, 4
	checkSpread(t, at(3, 2, 3, 251), 8, want)
}

// By hand: the place to which the walk comes next, for each log.
func TestSpreadGoesAPieceFurtherOfEachSize(t *testing.T) { // 13.1
	for log, place := range map[int]int{7: 83, 8: 163, 9: 323, 10: 643, 11: 1283, 12: 2563} {
		size := 1 << log
		checkSpread(t, at(20, 1, 1, size-2), log, with(with(alike(size, 22), 0, 20), place, 21))
		checkSpread(t, at(20, 2, 0, size-3, 1), log, with(with(with(alike(size, 22), 0, 20), place, 20), size-place, 23))
	}
}

func TestSpreadOfOneClassAlone(t *testing.T) { // 13.1
	for _, log := range logs() {
		for class := range api.Classes {
			checkSpread(t, at(class, 1<<log), log, alike(1<<log, class))
		}
	}
}

// Each of 65 classes has one place, and one of them all that are left.
func TestSpreadOfAllClasses(t *testing.T) { // 13.1
	for _, log := range logs() {
		size := 1 << log
		most := with(alike(65, 1), 64, size-64)
		want := alike(size, 64)
		for class := range api.Classes {
			want[class*further[log]%size] = class
		}
		checkSpread(t, most, log, want)
		for class := range api.Classes {
			l := with(alike(65, 1), class, size-64)
			checkSpread(t, l, log, classed(l, log))
		}
	}
}

// Classes with none between others have no turn.
func TestSpreadLeavesOutWhatHasNone(t *testing.T) { // 13.1
	eachCounts(140, func(l []int, log int) {
		var few []int
		var which []int
		for class, n := range l {
			if n > 0 {
				few, which = append(few, n), append(which, class)
			}
		}
		want, e := spread.Spread(at(0, few...), log)
		if e != api.OK || len(want) != 1<<log {
			t.Fatalf("Spread(%d, %d) = %d, %d", few, log, want, e)
		}
		for place, class := range want {
			want[place] = which[class]
		}
		checkSpread(t, l, log, want)
	})
}

func TestSpreadOfAllKinds(t *testing.T) { // 13.1
	eachCounts(141, func(l []int, log int) {
		checkSpread(t, l, log, classed(l, log))
	})
}

// One of a list of each kind of what may not be.
func notCounts() [][]int {
	return [][]int{
		nil, {}, at(0), at(0, 127), at(0, 129), at(0, 64, 63), at(0, 64, 65), alike(65, 1), alike(65, 2),
		at(0, 129, -1), at(0, -1, 129), at(63, -128, 256), at(0, -128), at(0, 130, -1, -1), with(at(0, 129), 64, -1),
		at(0, 128)[:64], append(at(0, 128), 0), append(at(0, 127), 1), append(at(0), 128), {128}, alike(128, 1), alike(64, 2), alike(66, 2),
		at(0, math.MaxInt, 1), at(0, math.MinInt), at(0, math.MaxInt, math.MaxInt, 130), at(0, math.MinInt, math.MinInt, 128),
		at(0, 1<<62, 1<<62, 1<<62, 1<<62, 128), at(0, 1<<32, 128), at(0, 1<<32+128), at(0, 1<<63-1, 1<<63-1, 2, 128),
	}
}

func TestOfWhatMayNotBe(t *testing.T) { // 13.1, 13.2
	for _, l := range notCounts() {
		checkNeither(t, l, 7)
	}
	eachCounts(142, func(l []int, log int) {
		for _, other := range logs() {
			if other != log {
				checkNeither(t, l, other)
			}
		}
		for _, class := range []int{0, 33, 64} {
			checkNeither(t, with(l, class, l[class]+1), log)
			checkNeither(t, with(l, class, l[class]-1), log)
		}
		checkNeither(t, with(with(l, 7, -1), 8, l[7]+l[8]+1), log)
		checkNeither(t, with(with(l, 64, l[0]+l[64]+3), 0, -3), log)
		checkNeither(t, append(slices.Clone(l), 0), log)
		checkNeither(t, append([]int{0}, l...), log)
		checkNeither(t, l[:64], log)
		checkNeither(t, l[1:], log)
		checkNeither(t, l[:1], log)
	})
}

func TestOfLogsThatThereAreNot(t *testing.T) { // 13.1, 13.2
	for _, log := range noLogs {
		for _, l := range [][]int{at(0, 128), at(0, 64), at(9, 4096), at(0, 8192), at(0, 1), at(0), alike(65, 1), nil, at(0, 1<<16), at(0, 1<<62), at(1, math.MinInt)} {
			checkNeither(t, l, log)
		}
	}
	checkNeither(t, at(0, 64), 6)
	checkNeither(t, at(0, 32, 32), 6)
	checkNeither(t, at(0, 8192), 13)
	checkNeither(t, with(alike(65, 1), 4, 8192-64), 13)
}

func TestTableOfTheDocument(t *testing.T) { // 13.2
	l, e := spread.Table(at(9, 128), 7)
	if e != api.OK || len(l) != 128 || l[0] != (api.Cell{Class: 9}) {
		t.Errorf("%v, %d", l, e)
	}
}

// Of one class alone x is size and each one behind it, so that no bit comes.
func TestTableOfOneClassAlone(t *testing.T) { // 13.2
	for _, log := range logs() {
		for class := range api.Classes {
			want := make([]api.Cell, 1<<log)
			for i := range want {
				want[i] = api.Cell{Class: class, Base: i}
			}
			checkTable(t, at(class, 1<<log), log, want)
		}
	}
}

// By hand: of a class with one place x is 1, so that log bits come, and of 127
// x is 127 at first: one bit, 254-128, and then from 128 on none.
func TestTableOfTwoClasses(t *testing.T) { // 13.2
	want := make([]api.Cell, 128)
	ahead := 0
	for i := range want {
		if i == 45 {
			want[i] = api.Cell{Class: 1, Bits: 7, Base: 0}
			continue
		}
		want[i] = api.Cell{Class: 0, Bits: 0, Base: ahead - 1}
		ahead++
	}
	want[0] = api.Cell{Class: 0, Bits: 1, Base: 126}
	checkTable(t, at(0, 127, 1), 7, want)
}

// By hand: of a half each x goes from 64 to 127, one bit each time, and the
// Bases from 0 to 126 in steps of 2.
func TestTableOfTwoHalves(t *testing.T) { // 13.2
	classes, _ := spread.Spread(at(0, 64, 64), 7)
	l, e := spread.Table(at(0, 64, 64), 7)
	if e != api.OK || len(l) != 128 {
		t.Fatal("Table:", l, e)
	}
	next := []int{0, 0}
	for place, c := range l {
		if c != (api.Cell{Class: classes[place], Bits: 1, Base: next[c.Class]}) {
			t.Errorf("at %d: %v", place, c)
		}
		next[c.Class] += 2
	}
}

// By hand: 2 of class 3 at the places 0 and 83, x 2 and 3; 3 of class 4 at 38,
// 76 and 121, x 3, 4 and 5; 123 of class 5 elsewhere, x from 123 on.
func TestTableOfThreeClasses(t *testing.T) { // 13.2
	l, e := spread.Table(at(3, 2, 3, 123), 7)
	if e != api.OK || len(l) != 128 {
		t.Fatal("Table:", l, e)
	}
	for place, want := range map[int]api.Cell{
		0:   {Class: 3, Bits: 6, Base: 2*64 - 128},
		83:  {Class: 3, Bits: 6, Base: 3*64 - 128},
		38:  {Class: 4, Bits: 6, Base: 3*64 - 128},
		76:  {Class: 4, Bits: 5, Base: 4*32 - 128},
		121: {Class: 4, Bits: 5, Base: 5*32 - 128},
		1:   {Class: 5, Bits: 1, Base: 123*2 - 128},
		2:   {Class: 5, Bits: 1, Base: 124*2 - 128},
		5:   {Class: 5, Bits: 1, Base: 127*2 - 128},
		6:   {Class: 5, Bits: 0, Base: 0},
		37:  {Class: 5, Bits: 0, Base: 31},
		39:  {Class: 5, Bits: 0, Base: 32},
		127: {Class: 5, Bits: 0, Base: 117},
	} {
		if l[place] != want {
			t.Errorf("at %d: %v, want %v", place, l[place], want)
		}
	}
}

// By hand: a class with one more and one less than a power of two, and with as
// many, in a table of 256.
func TestTableOfAPowerOfTwoAndBesideIt(t *testing.T) { // 13.2
	for n, want := range map[int][]api.Cell{
		1: {{Bits: 8, Base: 0}},
		2: {{Bits: 7, Base: 0}, {Bits: 7, Base: 128}},
		3: {{Bits: 7, Base: 128}, {Bits: 6, Base: 0}, {Bits: 6, Base: 64}},
		4: {{Bits: 6, Base: 0}, {Bits: 6, Base: 64}, {Bits: 6, Base: 128}, {Bits: 6, Base: 192}},
		5: {{Bits: 6, Base: 64}, {Bits: 6, Base: 128}, {Bits: 6, Base: 192}, {Bits: 5, Base: 0}, {Bits: 5, Base: 32}},
		7: {{Bits: 6, Base: 192}, {Bits: 5, Base: 0}, {Bits: 5, Base: 32}, {Bits: 5, Base: 64}, {Bits: 5, Base: 96}, {Bits: 5, Base: 128}, {Bits: 5, Base: 160}},
	} {
		l, e := spread.Table(at(0, n, 256-n), 8)
		if e != api.OK {
			t.Errorf("%d of 256: %d", n, e)
		}
		own := slices.DeleteFunc(l, func(c api.Cell) bool { return c.Class != 0 })
		if !slices.Equal(own, want) {
			t.Errorf("%d of 256: %v, want %v", n, own, want)
		}
	}
}

// Of all numbers that two classes may have: each place's cell.
func TestTableOfEachPairOfNumbers(t *testing.T) { // 13.1, 13.2
	for n := range 129 {
		l := at(17, n, 0, 128-n)
		checkSpread(t, l, 7, classed(l, 7))
		checkTable(t, l, 7, celled(l, classed(l, 7), 7))
	}
}

func TestTableOfAllKinds(t *testing.T) { // 13.2
	eachCounts(143, func(l []int, log int) {
		checkTable(t, l, log, celled(l, classed(l, log), log))
	})
}

// Each place has one class, and each class as many places as l says; Table's
// classes are Spread's.
func TestEachPlaceHasOneClass(t *testing.T) { // 13.3
	eachCounts(144, func(l []int, log int) {
		classes, e := spread.Spread(l, log)
		cells, f := spread.Table(l, log)
		if e != api.OK || f != api.OK || len(classes) != 1<<log || len(cells) != 1<<log {
			t.Fatalf("of %d, %d: %d and %d places, %d, %d", l, log, len(classes), len(cells), e, f)
		}
		for class, n := range l {
			if got := count(classes, class); got != n {
				t.Errorf("Spread(%d, %d): %d places of class %d", l, log, got, class)
			}
		}
		for place, c := range cells {
			if c.Class != classes[place] || l[c.Class] == 0 {
				t.Errorf("Table(%d, %d) at %d: %v, Spread %d", l, log, place, c, classes[place])
			}
		}
	})
}

// Of each class' places together each state is come to just once: from Base on,
// 2 to the power of Bits of them.
func TestEachStateIsComeToOnce(t *testing.T) { // 13.2, 13.3
	eachCounts(145, func(l []int, log int) {
		cells, _ := spread.Table(l, log)
		come := make([][]int, api.Classes)
		for class := range come {
			come[class] = alike(1<<log, 0)
		}
		for _, c := range cells {
			if c.Bits < 0 || c.Bits > log || c.Base < 0 || c.Base+1<<c.Bits > 1<<log {
				t.Fatalf("Table(%d, %d): %v", l, log, c)
			}
			for state := range 1 << c.Bits {
				come[c.Class][c.Base+state]++
			}
		}
		for class, n := range l {
			if want := alike(1<<log, min(n, 1)); !slices.Equal(come[class], want) {
				t.Errorf("Table(%d, %d): how often each state is come to from class %d: %d", l, log, class, come[class])
			}
		}
	})
}

// What is normed may be spread.
func TestOfWhatIsNormed(t *testing.T) { // 13.1, 13.3, 12.4
	next := chain(146)
	for range 200 {
		freq := at(0)
		for range 1 + next(20) {
			freq[next(len(freq))] = 1 + next(5000)
		}
		log := api.LeastLog + next(6)
		l, _ := norm.Of(freq, log)
		classes, e := spread.Spread(l, log)
		if e != api.OK {
			t.Fatalf("Spread(%d, %d): %d", l, log, e)
		}
		for class, n := range freq {
			if (n > 0) != slices.Contains(classes, class) {
				t.Errorf("Spread(%d, %d): %d of class %d came", l, log, n, class)
			}
		}
	}
}

// Numbers of chance, of which few may be.
func TestOfNumbersOfChance(t *testing.T) { // 13.1, 13.2, R1
	next := chain(147)
	for range 3000 {
		l := alike(api.Classes-1+next(3), 0)
		for range next(8) {
			l[next(len(l))] = []int{-1, 1, 64, 127, 128, 1 << 12, math.MaxInt, math.MinInt, 32, 1<<63 - 1}[next(10)]
		}
		log := next(16) - 1
		if norm.May(l, log) {
			checkSpread(t, l, log, classed(l, log))
			checkTable(t, l, log, celled(l, classed(l, log), log))
		} else {
			checkNeither(t, l, log)
		}
	}
}

func TestWhatIsHandedInStays(t *testing.T) { // R3
	lists := append(counts(148, 7), notCounts()...)
	for _, l := range append(lists, counts(149, 12)...) {
		room := append(slices.Clone(l), 7, 1, 2)
		was := slices.Clone(room)
		for _, log := range []int{6, 7, 8, 12, 13} {
			for _, given := range [][]int{room[:len(l)], room[:len(l)/2], room[1:], room} {
				spread.Spread(given, log)
				spread.Table(given, log)
			}
		}
		if !slices.Equal(room, was) {
			t.Errorf("a call changed %d to %d", was, room)
		}
	}
}

// What lies behind a list's end is none of it.
func TestSpareRoomIsNotAsked(t *testing.T) { // R3
	eachCounts(150, func(l []int, log int) {
		room := append(slices.Clone(l), alike(65, 3)...)
		checkSpread(t, room[:api.Classes], log, classed(l, log))
		checkTable(t, room[:api.Classes], log, celled(l, classed(l, log), log))
		checkNeither(t, room[:64], log)
		checkNeither(t, room[:66], log)
	})
}

// overwrite writes into all of l, its spare room too.
func overwrite[T any](l []T, v T) {
	l = l[:cap(l)]
	for i := range l {
		l[i] = v
	}
}

func TestWhatIsToldIsNewMemory(t *testing.T) { // R3, R5
	for _, log := range []int{7, 9, 12} {
		for _, l := range counts(151, log) {
			given := slices.Clone(l)
			classes, _ := spread.Spread(given, log)
			others, _ := spread.Spread(given, log)
			cells, _ := spread.Table(given, log)
			further, _ := spread.Table(given, log)
			overwrite(classes, 99)
			overwrite(cells, api.Cell{Class: 99, Bits: 99, Base: 99})
			_, _ = append(classes, 5), append(cells, api.Cell{})
			if !slices.Equal(given, l) {
				t.Errorf("a call of %d tells memory of what it was given", l)
			}
			overwrite(given, 99)
			if want := classed(l, log); !slices.Equal(others, want) || !slices.Equal(further, celled(l, want, log)) {
				t.Errorf("a call of %d tells memory of another answer, or of what it was given", l)
			}
			checkSpread(t, l, log, classed(l, log))
			checkTable(t, l, log, celled(l, classed(l, log), log))
		}
	}
}

// The same calls tell the same, whatever was called between them.
func TestTheSameCallsTellTheSame(t *testing.T) { // R1, R5
	lists := counts(152, 8)
	for i, l := range lists {
		classes, _ := spread.Spread(l, 8)
		cells, _ := spread.Table(l, 8)
		spread.Table(lists[(i+1)%len(lists)], 8)
		spread.Spread(at(0, 4096), 12)
		spread.Table(nil, 8)
		checkSpread(t, l, 8, classes)
		checkTable(t, l, 8, cells)
	}
}
