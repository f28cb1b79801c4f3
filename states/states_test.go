package states_test

import (
	"math"
	"slices"
	"strconv"
	"strings"
	"testing"

	"wringer/api"
	"wringer/hist"
	"wringer/norm"
	"wringer/spread"
	"wringer/states"
	"wringer/vint"
	"wringer/zig"
)

// at tells Classes numbers: those of l from a place on, else 0.
func at(from int, l ...int) []int {
	out := make([]int, api.Classes)
	copy(out[from:], l)
	return out
}

// alike tells n numbers that are all v.
func alike(n, v int) []int { return slices.Repeat([]int{v}, n) }

// with tells l with v at a place.
func with(l []int, place, v int) []int {
	l = slices.Clone(l)
	l[place] = v
	return l
}

func part(class int, rest uint64) api.Part { return api.Part{Class: class, Rest: rest} }

func parts(l ...api.Part) []api.Part { return l }

// noughts tells n parts of a class, each with the Rest 0.
func noughts(n, class int) []api.Part { return slices.Repeat(parts(part(class, 0)), n) }

// chain tells numbers that hang on nothing but seed.
func chain(seed uint64) func(below int) int {
	return func(below int) int {
		seed = seed*6364136223846793005 + 1442695040888963407
		return int(seed >> 20 % uint64(below))
	}
}

// logs are all that there are.
func logs() []int {
	var l []int
	for log := api.LeastLog; log <= api.MostLog; log++ {
		l = append(l, log)
	}
	return l
}

// noLogs are some of those that there are not.
var noLogs = []int{api.LeastLog - 1, api.MostLog + 1, 0, 1, 3, -1, -7, 16, 62, 63, 64, 65, 71, 1<<32 + 7, math.MinInt, math.MinInt + 7, math.MaxInt}

// counts are those of all kinds whose sum is 2 to the power of log: of few
// classes, of all, alike, rare, common.
func counts(seed uint64, log int) [][]int {
	size := 1 << log
	lists := [][]int{
		at(0, size), at(1, size), at(30, size), at(64, size), at(0, size-1, 1), at(0, 1, size-1), at(63, 1, size-1),
		at(0, size/2, size/2), with(at(0, 1), 64, size-1), with(at(0, size-1), 64, 1), with(alike(65, 1), 0, size-64),
		with(alike(65, 1), 64, size-64), at(3, 1, 1, size-2), at(0, size/4, 0, 0, size/4, 0, size/2),
		at(10, size/2-1, 0, size/2+1), at(0, size/4, size/4-1, size/4+1, size/4),
	}
	next := chain(seed + uint64(log))
	for range 12 {
		freq := at(0)
		most := []int{2, 10, 1000, api.MaxBits + 1}[next(4)]
		for range 1 + next(60) {
			freq[next(len(freq))] = next(most)
		}
		freq[next(len(freq))] = 1
		l, _ := norm.Of(freq, log)
		lists = append(lists, l)
	}
	return lists
}

// eachCounts goes through counts of all logs.
func eachCounts(seed uint64, do func(counts []int, log int)) {
	for _, log := range logs() {
		for _, l := range counts(seed, log) {
			do(l, log)
		}
	}
}

// restBits counts them by hand: of class 0 and 1 none, of the others one less.
func restBits(class int) int {
	if class == 0 {
		return 0
	}
	return class - 1
}

// someOf tells n parts of chance, of classes that counts have, the rare ones as
// often as the common ones, the least and the greatest rests among them.
func someOf(next func(int) int, counts []int, n int) []api.Part {
	var classes []int
	for class, many := range counts {
		if many > 0 {
			classes = append(classes, class)
		}
	}
	l := make([]api.Part, n)
	for i := range l {
		class := classes[next(len(classes))]
		rest := uint64(next(1<<32))<<32 | uint64(next(1<<32))
		rest = []uint64{rest, rest, 0, math.MaxUint64}[next(4)] % (1 << restBits(class))
		l[i] = part(class, rest)
	}
	return l
}

// digits tells the lowest n bits of v, the lowest first.
func digits(v uint64, n int) string {
	d := []byte(strconv.FormatUint(v, 2))
	slices.Reverse(d)
	return (string(d) + strings.Repeat("0", 64))[:n]
}

// number is the other side.
func number(digits string) uint64 {
	d := []byte(digits)
	slices.Reverse(d)
	v, _ := strconv.ParseUint("0"+string(d), 2, 64)
	return v
}

// bytesOf tells the bytes of a row of bits, told as digits; blanks between them
// are left out.
func bytesOf(row string) string {
	row = strings.ReplaceAll(row, " ", "")
	b := make([]byte, (len(row)+7)/8)
	for i, digit := range row {
		if digit == '1' {
			b[i/8] |= 1 << (i % 8)
		}
	}
	return string(b)
}

// rowOf is the other side, with the bits that fill the last byte up.
func rowOf(s string) string {
	var row strings.Builder
	for i := range len(s) {
		row.WriteString(digits(uint64(s[i]), 8))
	}
	return row.String()
}

// told tells the bytes of a row of states, without the mark, and of one of rests.
func told(states, rests string) string {
	seal := bytesOf(states + "1")
	return vint.Put(uint64(len(seal))) + seal + bytesOf(rests)
}

// restsOf tells the rests of l as digits.
func restsOf(l []api.Part) string {
	var row strings.Builder
	for _, p := range l {
		row.WriteString(digits(p.Rest, restBits(p.Class)))
	}
	return row.String()
}

// before looks at all cells of a table for the one of class from which state is
// come to.
func before(cells []api.Cell, class, state int) int {
	return slices.IndexFunc(cells, func(c api.Cell) bool {
		return c.Class == class && c.Base <= state && state <= c.Base+1<<c.Bits-1
	})
}

// expected tells by another way the Put of parts that may be put.
func expected(l []api.Part, counts []int, log int) string {
	cells, _ := spread.Table(counts, log)
	state := 0
	var pieces []string
	for i := range l {
		c := before(cells, l[len(l)-1-i].Class, state)
		pieces = append(pieces, digits(uint64(state-cells[c].Base), cells[c].Bits))
		state = c
	}
	pieces = append(pieces, digits(uint64(state), log))
	return told(strings.Join(pieces, ""), restsOf(l))
}

// expectedGet tells by another way what Get answers where counts and n may be:
// it guesses the parts, and asks whether their Put is s.
func expectedGet(s string, n int, counts []int, log int) ([]api.Part, api.Errno) {
	l, ok := guess(s, n, counts, log)
	if !ok || expected(l, counts, log) != s {
		return nil, api.ErrForm
	}
	return l, api.OK
}

func guess(s string, n int, counts []int, log int) ([]api.Part, bool) {
	size, from := 0, 0
	for from < min(len(s), 3) && s[from] > 127 {
		size |= int(s[from]-128) << (7 * from)
		from++
	}
	if from == len(s) {
		return nil, false
	}
	size |= int(s[from]&127) << (7 * from)
	from++
	row := strings.TrimRight(rowOf(s[from:min(from+size, len(s))]), "0")
	row, rests := row[:max(len(row)-1, 0)], rowOf(s[min(from+size, len(s)):])
	take := func(many int) int {
		piece := row[max(len(row)-many, 0):]
		row = row[:len(row)-len(piece)]
		return int(number(piece))
	}
	cells, _ := spread.Table(counts, log)
	state := take(log)
	var l []api.Part
	for range n {
		c := cells[state]
		state = (c.Base + take(c.Bits)) % len(cells)
		rest := rests[:min(len(rests), restBits(c.Class))]
		rests = rests[len(rest):]
		l = append(l, part(c.Class, number(rest)))
	}
	return l, true
}

// few keeps what a test tells short.
func few[T any](l []T) []T { return l[:min(len(l), 12)] }

// short is few for bytes.
func short(s string) string { return s[:min(len(s), 40)] }

func checkPut(t *testing.T, l []api.Part, counts []int, log int, want string, e api.Errno) {
	t.Helper()
	if s, got := states.Put(l, counts, log); got != e || s != want {
		t.Errorf("Put(%v, %d, %d) = %q, %d, want %q, %d", few(l), counts, log, short(s), got, short(want), e)
	}
}

func checkGet(t *testing.T, s string, n int, counts []int, log int, want []api.Part, e api.Errno) {
	t.Helper()
	l, got := states.Get(s, n, counts, log)
	if got != e || !slices.Equal(l, want) || e != api.OK && l != nil {
		t.Errorf("Get(%q, %d, %d, %d) = %v, %d, want %v, %d", short(s), n, counts, log, few(l), got, few(want), e)
	}
}

// checkBoth holds Put, and Get of it, against the bytes that are wanted.
func checkBoth(t *testing.T, l []api.Part, counts []int, log int, want string) {
	t.Helper()
	checkPut(t, l, counts, log, want, api.OK)
	checkGet(t, want, len(l), counts, log, l, api.OK)
}

// By hand: log bits 0, and the mark.
func TestPutOfNothing(t *testing.T) { // 14.1, R3
	want := map[int]string{7: "\x01\x80", 8: "\x02\x00\x01", 9: "\x02\x00\x02", 10: "\x02\x00\x04", 11: "\x02\x00\x08", 12: "\x02\x00\x10"}
	eachCounts(160, func(counts []int, log int) {
		checkBoth(t, nil, counts, log, want[log])
		checkBoth(t, []api.Part{}, counts, log, want[log])
	})
}

// One class alone has all places, of which each one's state is its own place: no
// bit comes, and the state stays 0.
func TestOneClassAlone(t *testing.T) { // 14.1, 14.2, 14.3
	for _, log := range logs() {
		for class := range api.Classes {
			counts := at(class, 1<<log)
			zeros := strings.Repeat("0", log)
			checkBoth(t, noughts(1, class), counts, log, told(zeros, strings.Repeat("0", restBits(class))))
			checkBoth(t, noughts(9, class), counts, log, told(zeros, strings.Repeat("0", 9*restBits(class))))
			if class > 1 {
				most := uint64(1)<<restBits(class) - 1
				l := parts(part(class, most), part(class, 1), part(class, most))
				ones := strings.Repeat("1", restBits(class))
				checkBoth(t, l, counts, log, told(zeros, ones+"1"+strings.Repeat("0", restBits(class)-1)+ones))
			}
		}
	}
}

// As bytes, by hand: the Rests come from the first part on, bit 0 of each first.
func TestRestsOfOneClassAlone(t *testing.T) { // 14.1, 14.2
	checkBoth(t, parts(part(3, 2)), at(3, 128), 7, "\x01\x80\x02")
	checkBoth(t, parts(part(3, 2), part(3, 3)), at(3, 128), 7, "\x01\x80\x0e")
	checkBoth(t, parts(part(3, 3), part(3, 2), part(3, 1), part(3, 0), part(3, 1)), at(3, 128), 7, "\x01\x80\x1b\x01")
	checkBoth(t, parts(part(9, 0xa5), part(9, 1)), at(9, 128), 7, "\x01\x80\xa5\x01")
	checkBoth(t, parts(part(2, 1), part(2, 0), part(2, 1)), at(2, 256), 8, "\x02\x00\x01\x05")
}

// By hand: of a half each the cell of place 0 is that of class 0 with Base 0, and
// that of place 1 the one of class 1 with Base 0; each with one bit.
func TestPutOfTwoHalves(t *testing.T) { // 14.1, 14.2, 14.3
	half := at(0, 64, 64)
	checkBoth(t, parts(part(0, 0)), half, 7, "\x02\x00\x01")
	checkBoth(t, parts(part(1, 0)), half, 7, "\x02\x02\x01")
	checkBoth(t, parts(part(0, 0), part(1, 0)), half, 7, told("0 1 0000000", ""))
	checkBoth(t, parts(part(0, 0), part(0, 0)), half, 7, told("0 0 0000000", ""))
	checkBoth(t, parts(part(1, 0), part(1, 0)), half, 7, told("0 1 1000000", ""))
	checkBoth(t, parts(part(1, 0), part(0, 0), part(1, 0)), half, 7, told("0 1 0 1000000", ""))
	checkBoth(t, parts(part(0, 0), part(1, 0)), half, 7, "\x02\x02\x02")
	same := at(3, 64, 0, 0, 0, 64)
	checkBoth(t, parts(part(3, 1), part(7, 9), part(3, 2)), same, 7, told("0 0 1 0000000", "10 100100 01"))
}

// By hand: of 127 to 1 the one is at place 45, and comes from there with 7 bits.
// Of the others place 0 has one bit, with Base 126; behind it Base is the place
// less 1, and behind 45 less 2.
func TestPutOfAClassWithOnePlace(t *testing.T) { // 14.1, 14.2, 14.3
	counts := at(0, 127, 1)
	checkBoth(t, parts(part(1, 0)), counts, 7, told("0000000 1011010", ""))
	checkBoth(t, parts(part(0, 0)), counts, 7, "\x01\x81")
	for n := range 45 {
		checkBoth(t, noughts(n, 0), counts, 7, "\x01"+string([]byte{byte(128 + n)}))
	}
	for n := 45; n < 86; n++ {
		checkBoth(t, noughts(n, 0), counts, 7, "\x01"+string([]byte{byte(128 + 44 + 2*(n-44))}))
	}
	// From 126 to place 0, whose Base that is, and from there on once more.
	checkBoth(t, noughts(86, 0), counts, 7, told("0 0000000", ""))
	checkBoth(t, noughts(87, 0), counts, 7, told("0 1000000", ""))
	// 0 from 45, with the bits of 0, and 45 from 45, with those of 45.
	checkBoth(t, noughts(2, 1), counts, 7, told("0000000 1011010 1011010", ""))
	// 0 from 1, and 1 from 45 with its bits; 45 from 47, whose Base it is.
	checkBoth(t, parts(part(1, 0), part(0, 0)), counts, 7, told("1000000 1011010", ""))
	checkBoth(t, parts(part(0, 0), part(1, 0)), counts, 7, told("0000000 "+digits(47, 7), ""))
	checkBoth(t, parts(part(0, 0), part(1, 0), part(0, 0)), counts, 7, told("1000000 "+digits(47, 7), ""))
}

// By hand: 2 of class 3 at the places 0 and 83, with 6 bits from 0 and 64; 3 of
// class 4 at 38, 76 and 121, with 6 bits from 64, 5 from 0, 5 from 32; 123 of
// class 5 elsewhere, the first five with one bit from 118 on.
func TestPutOfThreeClasses(t *testing.T) { // 14.1, 14.2, 14.3
	counts := at(3, 2, 3, 123)
	checkBoth(t, parts(part(3, 1)), counts, 7, told("000000 0000000", "10"))
	checkBoth(t, parts(part(4, 6)), counts, 7, told("00000 "+digits(76, 7), "011"))
	checkBoth(t, parts(part(5, 9)), counts, 7, told(digits(6, 7), "1001"))
	// 0 from 6, 6 from 76 with the bits of 6, 76 from 83 with those of 76-64.
	checkBoth(t, parts(part(3, 2), part(4, 4), part(5, 1)), counts, 7, told("01100 001100 "+digits(83, 7), "01 001 1000"))
	// 0 from 76, 76 from 38 with the bits of 76-64, 38 from 121 with those of 38-32.
	checkBoth(t, parts(part(4, 7), part(4, 0), part(4, 1)), counts, 7, told("00000 001100 01100 "+digits(121, 7), "111 000 100"))
	// 0 from 6, 6 from 0 with 6 bits, 0 from 76 with 5.
	checkBoth(t, parts(part(4, 5), part(3, 0), part(5, 15)), counts, 7, told("011000 00000 "+digits(76, 7), "101 00 1111"))
}

func TestPutOfManyParts(t *testing.T) { // 14.1
	next := chain(161)
	eachCounts(161, func(counts []int, log int) {
		for _, n := range []int{1, 2, 7, 60, 250} {
			l := someOf(next, counts, n)
			checkBoth(t, l, counts, log, expected(l, counts, log))
		}
	})
}

// By each class to each place of a table, alone and behind another part.
func TestPutGoesFromEachState(t *testing.T) { // 14.1
	for _, counts := range [][]int{at(0, 127, 1), at(0, 64, 64), at(0, 3, 4, 121), at(60, 1, 1, 1, 31, 94), with(alike(65, 1), 21, 64)} {
		for a := range api.Classes {
			for b := range api.Classes {
				if counts[a] > 0 && counts[b] > 0 {
					for n := range 4 {
						l := append(noughts(1, a), noughts(n, b)...)
						checkBoth(t, l, counts, 7, expected(l, counts, 7))
					}
				}
			}
		}
	}
}

// Where the Seal has more than 127 bytes its size is told in two.
func TestPutOfALongSeal(t *testing.T) { // 14.1, 14.2
	half := at(0, 64, 64)
	// One bit a part: 7 of the state, the mark, and 8 times 126 make 127 bytes.
	for n, head := range map[int]string{1008: "\x7f", 1009: "\x80\x01", 1016: "\x80\x01", 2032: "\xff\x01", 2033: "\x80\x02"} {
		l := someOf(chain(uint64(n)), half, n)
		s, e := states.Put(l, half, 7)
		if e != api.OK || !strings.HasPrefix(s, head) || len(s) != len(head)+1+(n+7)/8 {
			t.Errorf("%d parts: %d bytes %q, %d", n, len(s), short(s), e)
		}
		checkBoth(t, l, half, 7, expected(l, half, 7))
	}
}

// Put is of as many parts as there are: MaxBlock is a limit of Get alone.
func TestPutOfMoreThanABlock(t *testing.T) { // 14.1, 14.2
	checkPut(t, noughts(api.MaxBlock+1, 5), at(5, 128), 7, told("0000000", strings.Repeat("0000", api.MaxBlock+1)), api.OK)
	l := someOf(chain(162), at(0, 40, 40, 48), 3*api.MaxBlock)
	checkPut(t, l, at(0, 40, 40, 48), 7, expected(l, at(0, 40, 40, 48), 7), api.OK)
	checkPut(t, append(l, part(1, 1)), at(0, 40, 40, 48), 7, "", api.ErrArg)
}

// notCounts are of those that may not be by log 7.
func notCounts() [][]int {
	return [][]int{
		nil, {}, at(0), at(0, 127), at(0, 129), at(0, 64, 63), at(0, 64, 65), alike(65, 1), alike(65, 2), at(0, 256), at(0, 128, 128),
		at(0, 129, -1), at(0, -1, 129), at(63, -128, 256), at(0, -128), at(0, 130, -1, -1), with(at(0, 129), 64, -1),
		at(0, 128)[:64], append(at(0, 128), 0), append(at(0, 127), 1), append(at(0), 128), {128}, {64, 64}, alike(128, 1), alike(64, 2), alike(66, 2),
		at(0, math.MaxInt, 1), at(0, math.MinInt), at(0, math.MaxInt, math.MaxInt, 130), at(0, math.MinInt, math.MinInt, 128),
		at(0, 1<<62, 1<<62, 1<<62, 1<<62, 128), at(0, 1<<32, 128), at(0, 1<<32+128), at(0, 1<<63-1, 1<<63-1, 2, 128),
	}
}

// checkNeither asks both calls for ErrForm, whatever else may not be.
func checkNeither(t *testing.T, counts []int, log int) {
	t.Helper()
	for _, l := range [][]api.Part{
		nil, {}, {part(0, 0)}, {part(1, 0), part(2, 1)}, {part(64, 5)},
		{part(9, 1<<9)}, {part(-1, 0)}, {part(65, 0)}, {part(0, 1)}, {part(math.MinInt, 0), part(math.MaxInt, 7)},
	} {
		checkPut(t, l, counts, log, "", api.ErrForm)
	}
	for _, n := range []int{0, 1, api.MaxBlock, api.MaxBlock + 1, -1, math.MinInt, math.MaxInt} {
		for _, s := range []string{"", "\x01\x80", "\x02\x00\x01", "\xff\xff\xff"} {
			checkGet(t, s, n, counts, log, nil, api.ErrForm)
		}
	}
}

func TestOfCountsThatMayNotBe(t *testing.T) { // 14.1, 14.2, R2
	for _, counts := range notCounts() {
		checkNeither(t, counts, 7)
	}
	eachCounts(163, func(l []int, log int) {
		for _, other := range logs() {
			if other != log {
				checkNeither(t, l, other)
			}
		}
		checkNeither(t, with(l, 33, l[33]+1), log)
		checkNeither(t, with(l, 64, l[64]-1), log)
		checkNeither(t, with(with(l, 7, -1), 8, l[7]+l[8]+1), log)
		checkNeither(t, append(slices.Clone(l), 0), log)
		checkNeither(t, l[:64], log)
		checkNeither(t, l[1:], log)
	})
}

func TestOfLogsThatThereAreNot(t *testing.T) { // 14.1, 14.2, R2
	for _, log := range noLogs {
		for _, counts := range [][]int{at(0, 128), at(0, 64), at(9, 4096), at(0, 8192), at(0, 1), at(0), alike(65, 1), nil, at(0, 1<<16), at(0, 1<<62)} {
			checkNeither(t, counts, log)
		}
	}
	checkNeither(t, at(0, 32, 32), 6)
	checkNeither(t, with(alike(65, 1), 4, 8192-64), 13)
}

// outsiders are parts without a Join.
func outsiders() []api.Part {
	l := parts(part(0, 1), part(0, 2), part(0, 1<<63), part(0, math.MaxUint64))
	for class := 1; class < api.Classes; class++ {
		room := uint64(1) << restBits(class)
		l = append(l, part(class, room), part(class, room+1), part(class, 1<<63), part(class, math.MaxUint64))
	}
	for _, class := range []int{
		-1, -2, -63, -64, -65, -256, math.MinInt32, math.MinInt, math.MinInt + 1,
		65, 66, 127, 128, 129, 255, 256, 257, 1 << 16, 1 << 32, math.MaxInt32, math.MaxInt,
	} {
		l = append(l, part(class, 0), part(class, 1), part(class, math.MaxUint64))
	}
	return l
}

// checkOutsider puts p alone, ahead of others, behind others and between them.
func checkOutsider(t *testing.T, p api.Part, others []api.Part, counts []int, log int) {
	t.Helper()
	checkPut(t, parts(p), counts, log, "", api.ErrArg)
	for i := range len(others) + 1 {
		checkPut(t, slices.Concat(others[:i], parts(p), others[i:]), counts, log, "", api.ErrArg)
	}
}

// By counts that have each class that there is.
func TestPutOfPartsWithoutAJoin(t *testing.T) { // 14.1
	counts := append(alike(63, 2), 1, 1)
	others := someOf(chain(164), counts, 3)
	for _, p := range outsiders() {
		if _, ok := zig.Join(p); ok {
			t.Errorf("%v has a Join", p)
		}
		checkOutsider(t, p, others, counts, 7)
		if p.Class >= 0 && p.Class < api.Classes {
			checkPut(t, parts(p), at(p.Class, 128), 7, "", api.ErrArg)
		}
		checkPut(t, parts(p), at(3, 128), 7, "", api.ErrArg)
	}
}

// What has a Join and a place is put, whatever its rest.
func TestPutOfPartsWithAJoin(t *testing.T) { // 14.1, 14.3
	counts := append([]int{1, 1}, alike(63, 2)...)
	for class := range api.Classes {
		room := uint64(1) << restBits(class)
		for _, rest := range []uint64{0, 1, room / 3, room / 2, room - 1} {
			p := part(class, rest)
			if _, ok := zig.Join(p); ok {
				checkBoth(t, parts(p), counts, 7, expected(parts(p), counts, 7))
			}
		}
	}
}

func TestPutOfAClassWithoutAPlace(t *testing.T) { // 14.1
	next := chain(165)
	for _, log := range []int{7, 9} {
		for _, counts := range counts(165, log) {
			others := someOf(next, counts, 2)
			for class, n := range counts {
				if n == 0 {
					checkOutsider(t, part(class, 0), others, counts, log)
				}
			}
		}
	}
}

// The number is asked ahead of the bytes.
func TestGetOfANumberThatMayNotBe(t *testing.T) { // 14.2, R2
	for _, log := range logs() {
		for _, counts := range [][]int{at(0, 1<<log), at(64, 1<<log), at(0, 1<<log-1, 1)} {
			for _, n := range []int{-1, -2, -api.MaxBlock, math.MinInt32, math.MinInt, api.MaxBlock + 1, 2 * api.MaxBlock, 1 << 31, 1 << 32, math.MaxInt} {
				for _, s := range []string{"", "\x00", "\x01\x80", "\x02\x00\x01", strings.Repeat("\xff", 99)} {
					checkGet(t, s, n, counts, log, nil, api.ErrArg)
				}
			}
		}
	}
}

func TestGetOfAWholeBlock(t *testing.T) { // 14.2, 14.3
	next := chain(166)
	for _, n := range []int{api.MaxBlock - 1, api.MaxBlock} {
		checkBoth(t, noughts(n, 0), at(0, 128), 7, "\x01\x80")
		checkBoth(t, noughts(n, 1), at(1, 4096), 12, "\x02\x00\x10")
		for _, log := range []int{7, 10} {
			for _, counts := range counts(166, log) {
				l := someOf(next, counts, n)
				checkBoth(t, l, counts, log, expected(l, counts, log))
			}
		}
	}
	l := slices.Repeat(parts(part(64, 1<<63-1)), api.MaxBlock+1)
	s, _ := states.Put(l, at(64, 128), 7)
	checkGet(t, s, api.MaxBlock, at(64, 128), 7, nil, api.ErrForm)
	checkGet(t, s, api.MaxBlock+1, at(64, 128), 7, nil, api.ErrArg)
	checkGet(t, "\x01\x80", api.MaxBlock, at(2, 128), 7, nil, api.ErrForm)
}

// What norm tells of the parts' own classes, for all logs.
func TestGetOfPut(t *testing.T) { // 14.3
	next := chain(167)
	for _, log := range logs() {
		for _, n := range []int{1, 2, 3, 8, 50, 700, api.MaxBlock} {
			l := make([]api.Part, n)
			for i := range l {
				l[i] = zig.Split(int64(next(1<<40)) >> next(41) * int64(1-2*next(2)))
			}
			counts, _ := norm.Of(hist.Of(l), log)
			s, e := states.Put(l, counts, log)
			if e != api.OK {
				t.Errorf("Put(%v, %d, %d): %d", few(l), counts, log, e)
			}
			checkGet(t, s, n, counts, log, l, api.OK)
		}
	}
}

// Of numbers of all sizes, the ends among them.
func TestGetOfPutOfNumbers(t *testing.T) { // 14.3
	numbers := []int64{0, math.MinInt64, math.MaxInt64}
	for i := range 63 {
		numbers = append(numbers, 1<<i, -1<<i, 1<<i-1, -1<<i-1)
	}
	l := hist.Parts(numbers)
	for _, log := range logs() {
		counts, _ := norm.Of(hist.Of(l), log)
		checkBoth(t, l, counts, log, expected(l, counts, log))
		back, e := states.Get(expected(l, counts, log), len(l), counts, log)
		if values, ok := hist.Values(back); e != api.OK || !ok || !slices.Equal(values, numbers) {
			t.Errorf("log %d: %d, %d", log, values, e)
		}
	}
}

// What lacks is never asked for: it is ErrForm.
func TestGetOfBytesThatAreCut(t *testing.T) { // 14.2
	next := chain(168)
	eachCounts(168, func(counts []int, log int) {
		for _, n := range []int{0, 1, 4, 20} {
			l := someOf(next, counts, n)
			s := expected(l, counts, log)
			for i := range len(s) {
				checkGet(t, s[:i], n, counts, log, nil, api.ErrForm)
			}
		}
	})
}

func TestGetOfBytesTooMany(t *testing.T) { // 14.2
	next := chain(169)
	eachCounts(169, func(counts []int, log int) {
		for _, n := range []int{0, 1, 5, 30} {
			l := someOf(next, counts, n)
			s := expected(l, counts, log)
			for _, behind := range []string{"\x00", "\x01", "\x80", "\xff", "\x00\x00", strings.Repeat("\x00", 99)} {
				checkGet(t, s+behind, n, counts, log, nil, api.ErrForm)
			}
			checkGet(t, s+s, n, counts, log, nil, api.ErrForm)
			checkGet(t, "\x00"+s, n, counts, log, nil, api.ErrForm)
		}
	})
}

// One bit of a Put is turned.
func TestGetOfBytesWithABitThatIsTurned(t *testing.T) { // 14.2
	next := chain(170)
	seen := map[api.Errno]int{}
	for _, log := range logs() {
		for _, counts := range counts(170, log) {
			l := someOf(next, counts, 3)
			s := expected(l, counts, log)
			for i := range 8 * len(s) {
				b := []byte(s)
				b[i/8] ^= 1 << (i % 8)
				want, e := expectedGet(string(b), len(l), counts, log)
				checkGet(t, string(b), len(l), counts, log, want, e)
				seen[e]++
			}
		}
	}
	if seen[api.OK] < 500 || seen[api.ErrForm] < 500 {
		t.Error("of too few kinds:", seen)
	}
}

// The size of the Seal, told in other bytes, and another size.
func TestGetOfAnotherSize(t *testing.T) { // 14.2, 2.1
	one := at(0, 128)
	for _, s := range []string{
		"", "\x00", "\x01", "\x80", "\x81", "\x81\x00", "\x81\x00\x80", "\x81\x80\x00\x80", "\x80\x00", "\x80\x01", "\x80\x01\x80",
		"\x81\x80\x80\x80\x80\x80\x80\x80\x80\x00\x80", "\x81\x80\x80\x80\x80\x80\x80\x80\x80\x01\x80", "\x81\x80\x80\x80\x80\x80\x80\x80\x80\x02\x80",
		"\x81\x80\x80\x80\x80\x80\x80\x80\x80\x80\x00\x80", "\x81\x80\x80\x80\x80\x80\x80\x80\x80\x80\x80\x80", "\xff\xff\xff\xff\xff\xff\xff\xff\xff\x01\x80",
		"\xff\xff\xff\xff\xff\xff\xff\xff\x7f\x80", "\xff\xff\xff\xff\xff\xff\xff\xff\xff\x00\x80", "\x81\x80\x80\x80\x10\x80", "\x81\x80\x80\x80\x80\x80\x80\x80\x40\x80",
		"\x00\x80", "\x02\x80", "\x03\x80", "\x7f\x80", "\x80", "\x80\x80", "\x00\x01\x80", "\x02\x80\x00", "\x02\x00\x80", "\x02\x80\x80", "\x01\x80\x80",
	} {
		checkGet(t, s, 0, one, 7, nil, api.ErrForm)
		checkGet(t, s, 1, one, 7, nil, api.ErrForm)
	}
	next := chain(171)
	for _, log := range logs() {
		for _, counts := range counts(171, log) {
			for _, n := range []int{1, 10, 400} {
				l := someOf(next, counts, n)
				s := expected(l, counts, log)
				size, from, _ := vint.Get(s, 0)
				for _, other := range []uint64{0, size - 1, size + 1, 2 * size, size + 1<<32, 1 << 63, math.MaxUint64} {
					checkGet(t, vint.Put(other)+s[from:], n, counts, log, nil, api.ErrForm)
				}
				long := s[:from-1] + string([]byte{s[from-1] | 128, 0}) + s[from:]
				checkGet(t, long, n, counts, log, nil, api.ErrForm)
			}
		}
	}
}

// The mark is where the bits of the states end: behind fewer or more of them are others.
func TestGetOfAnotherMark(t *testing.T) { // 14.2, 4.2
	half := at(0, 64, 64)
	for _, s := range []string{"\x01\x00", "\x02\x80\x00", "\x02\x00\x00", "\x01\x01", "\x01\x40", "\x01\x20", "\x02\x00\x01", "\x02\x00\x02", "\x02\x00\x80", "\x03\x00\x00\x80"} {
		checkGet(t, s, 0, half, 7, nil, api.ErrForm)
	}
	l := parts(part(0, 0), part(1, 0), part(1, 0), part(0, 0))
	s, _ := states.Put(l, half, 7)
	row := strings.TrimRight(rowOf(s[1:]), "0")
	row = row[:len(row)-1]
	checkGet(t, told(row, ""), 4, half, 7, l, api.OK)
	for _, other := range []string{"0" + row, "1" + row, "00" + row, row[1:], row[2:], row[4:], row[5:], row[11:], ""} {
		checkGet(t, told(other, ""), 4, half, 7, nil, api.ErrForm)
	}
	checkGet(t, "\x02"+bytesOf(row), 4, half, 7, nil, api.ErrForm)
	checkGet(t, "\x03"+bytesOf(row+"1")+"\x00", 4, half, 7, nil, api.ErrForm)
}

// The bits behind the last rest fill a byte up, all 0.
func TestGetOfABitBehindTheRests(t *testing.T) { // 14.2
	next := chain(172)
	turned := 0
	for _, log := range logs() {
		for _, counts := range counts(172, log) {
			l := someOf(next, counts, 1+next(5))
			s := expected(l, counts, log)
			seal := s[:1+int(s[0])]
			for row := restsOf(l); len(row)%8 > 0; row += "0" {
				checkGet(t, seal+bytesOf(row+"1"), len(l), counts, log, nil, api.ErrForm)
				checkGet(t, seal+bytesOf(row+"0"), len(l), counts, log, l, api.OK)
				turned++
			}
			if len(restsOf(l))%8 == 0 {
				checkGet(t, s+"\x00", len(l), counts, log, nil, api.ErrForm)
			}
		}
	}
	if turned < 300 {
		t.Error("only", turned, "bits were behind")
	}
}

// Of one class alone no bit but the state's is there: it must be 0 at the end.
func TestGetEndsAtTheState0(t *testing.T) { // 14.2
	for state := range 128 {
		s := "\x01" + string([]byte{byte(128 | state)})
		for _, n := range []int{0, 1, 2, api.MaxBlock} {
			if state > 0 {
				checkGet(t, s, n, at(0, 128), 7, nil, api.ErrForm)
			} else {
				checkGet(t, s, n, at(0, 128), 7, noughts(n, 0), api.OK)
			}
		}
	}
	// From 47, over 45, to 0 with 7 bits; with others to another state.
	counts := at(0, 127, 1)
	l := parts(part(0, 0), part(1, 0))
	for v := range uint64(128) {
		s := told(digits(v, 7)+digits(47, 7), "")
		if v == 0 {
			checkGet(t, s, 2, counts, 7, l, api.OK)
		} else {
			checkGet(t, s, 2, counts, 7, nil, api.ErrForm)
		}
	}
}

// One part more, and one less.
func TestGetOfAnotherNumber(t *testing.T) { // 14.2
	next := chain(173)
	seen := map[api.Errno]int{}
	eachCounts(173, func(counts []int, log int) {
		for _, n := range []int{0, 1, 2, 9, 100} {
			s := expected(someOf(next, counts, n), counts, log)
			for _, other := range []int{n - 1, n + 1, n + 2, 2 * n} {
				if other < 0 || other == n {
					continue
				}
				want, e := expectedGet(s, other, counts, log)
				checkGet(t, s, other, counts, log, want, e)
				seen[e]++
			}
		}
	})
	if seen[api.OK] < 10 || seen[api.ErrForm] < 100 {
		t.Error("of too few kinds:", seen)
	}
	half := at(0, 64, 64)
	s, _ := states.Put(noughts(3, 1), half, 7)
	for _, n := range []int{0, 1, 2, 4, 5, api.MaxBlock} {
		checkGet(t, s, n, half, 7, nil, api.ErrForm)
	}
}

// lists tells all lists of n parts of classes.
func lists(n int, of []api.Part) [][]api.Part {
	if n == 0 {
		return [][]api.Part{{}}
	}
	var all [][]api.Part
	for _, l := range lists(n-1, of) {
		for _, p := range of {
			all = append(all, append(slices.Clone(l), p))
		}
	}
	return all
}

// Of all texts of one byte, of two and of three (of a size that may be) the ones
// that some list's Put is are got, and no others: two lists never have one Put.
func TestGetOfAllShortBytes(t *testing.T) { // 14.1, 14.2, 14.3
	of := parts(part(0, 0), part(1, 0), part(2, 0), part(2, 1))
	for _, counts := range [][]int{at(0, 128), at(2, 128), at(0, 127, 1), at(0, 64, 0, 64), at(0, 126, 1, 1), at(0, 1, 100, 27)} {
		own := slices.DeleteFunc(slices.Clone(of), func(p api.Part) bool { return counts[p.Class] == 0 })
		for n := range 4 {
			puts := map[string][]api.Part{}
			all := lists(n, own)
			for _, l := range all {
				puts[expected(l, counts, 7)] = l
			}
			if len(puts) != len(all) {
				t.Errorf("%d lists of %d parts by %d have %d Puts", len(all), n, counts, len(puts))
			}
			eachShort(func(s string) {
				want, ok := puts[s]
				l, e := states.Get(s, n, counts, 7)
				if ok != (e == api.OK) || !slices.Equal(l, want) || !ok && e != api.ErrForm {
					t.Errorf("Get(%q, %d, %d, 7) = %v, %d, want %v", s, n, counts, l, e, want)
				}
			})
		}
	}
}

func eachShort(do func(s string)) {
	for v := range 1 << 8 {
		do(string([]byte{byte(v)}))
	}
	for v := range 1 << 10 {
		do(string([]byte{byte(v >> 8), byte(v)}))
	}
	for v := range 1 << 8 {
		do(string([]byte{1, byte(v), byte(v % 3)}))
		for w := range 8 {
			do(string([]byte{2, byte(v), byte(w)}))
			do(string([]byte{2, byte(v), byte(w), byte(v % 9)}))
			do(string([]byte{3, byte(v), byte(w), byte(v % 2)}))
		}
	}
}

// mangled tells s with a byte, or a few, turned, put in, left out, or doubled.
func mangled(next func(int) int, s string) string {
	for range next(3) {
		i := next(len(s) + 1)
		switch b := string([]byte{byte(next(256)) & []byte{255, 1, 128, 240}[next(4)]}); next(4) {
		case 0:
			s = s[:i] + b + s[i:]
		case 1:
			s = s[:i] + s[min(i+1, len(s)):]
		case 2:
			s = s[:i] + b + s[min(i+1, len(s)):]
		case 3:
			s = s[:i] + s[max(i-2, 0):]
		}
	}
	return s
}

func TestGetOfBytesOfChance(t *testing.T) { // 14.2, R1
	next := chain(174)
	seen := map[api.Errno]int{}
	for _, log := range []int{7, 8, 9} {
		lists := counts(174, log)
		for i := range 5000 {
			counts := lists[i%len(lists)]
			l := someOf(next, counts, next(6))
			s, n := mangled(next, expected(l, counts, log)), max(len(l)+next(3)-1, 0)
			want, e := expectedGet(s, n, counts, log)
			checkGet(t, s, n, counts, log, want, e)
			seen[e]++
		}
		for i := range 5000 {
			b := make([]byte, next(6))
			for k := range b {
				b[k] = byte(next(256)) & []byte{255, 3, 128, 0}[next(4)]
			}
			n, counts := next(3), lists[i%len(lists)]
			want, e := expectedGet(string(b), n, counts, log)
			checkGet(t, string(b), n, counts, log, want, e)
		}
	}
	if seen[api.OK] < 1000 || seen[api.ErrForm] < 1000 {
		t.Error("of too few kinds:", seen)
	}
}

// Of many bytes no more than those of the parts are asked for.
func TestGetOfManyBytes(t *testing.T) { // 14.2, R1
	for _, fill := range []string{"\x00", "\x01", "\x80", "\xff"} {
		many := strings.Repeat(fill, 1<<22)
		for _, n := range []int{0, 1, api.MaxBlock} {
			checkGet(t, many, n, at(0, 128), 7, nil, api.ErrForm)
			checkGet(t, vint.Put(1<<22)+many, n, at(0, 64, 64), 7, nil, api.ErrForm)
			checkGet(t, "\x01\x80"+many, n, at(0, 128), 7, nil, api.ErrForm)
		}
	}
}

func TestWhatIsHandedInStays(t *testing.T) { // R3
	next := chain(175)
	for _, log := range []int{7, 12} {
		for _, counts := range append(counts(175, log), notCounts()...) {
			given := slices.Concat(counts, []int{7, 1, 2})
			was := slices.Clone(given)
			l := parts(part(1, 0), part(3, 9))
			if norm.May(counts, log) {
				l = someOf(next, counts, 20)
			}
			room := slices.Concat(l, parts(part(5, 5), part(-1, 1)))
			wasRoom := slices.Clone(room)
			s, _ := states.Put(room[:len(l)], given[:len(counts)], log)
			states.Put(room, given[:len(counts)], log)
			kept := strings.Clone(s)
			states.Get(s, len(l), given[:len(counts)], log)
			if !slices.Equal(given, was) || !slices.Equal(room, wasRoom) || s != kept {
				t.Errorf("a call changed what it was given: %d, %v", counts, few(l))
			}
		}
	}
}

// What lies behind a list's end is none of it.
func TestSpareRoomIsNotAsked(t *testing.T) { // R3
	next := chain(176)
	for _, counts := range counts(176, 8) {
		l := someOf(next, counts, 9)
		room := slices.Concat(l, parts(part(-1, 1), part(0, 7)))
		more := slices.Concat(counts, alike(9, 1))
		s := expected(l, counts, 8)
		checkPut(t, room[:len(l)], more[:len(counts)], 8, s, api.OK)
		checkGet(t, s, len(l), more[:len(counts)], 8, l, api.OK)
	}
}

// overwrite writes into all of l, its spare room too.
func overwrite[T any](l []T, v T) {
	l = l[:cap(l)]
	for i := range l {
		l[i] = v
	}
}

func TestWhatIsToldIsNewMemory(t *testing.T) { // R3, R5
	next := chain(177)
	for _, counts := range counts(177, 9) {
		l := someOf(next, counts, 12)
		givenCounts, given := slices.Clone(counts), slices.Clone(l)
		s, _ := states.Put(given, givenCounts, 9)
		one, _ := states.Get(s, len(l), givenCounts, 9)
		two, _ := states.Get(s, len(l), givenCounts, 9)
		overwrite(givenCounts, 99)
		overwrite(given, part(9, 9))
		overwrite(one, part(7, 7))
		_ = append(one, part(8, 8))
		if s != expected(l, counts, 9) || !slices.Equal(two, l) {
			t.Errorf("an answer hangs on other memory: %d, %v", counts, few(l))
		}
		checkBoth(t, l, counts, 9, s)
	}
}

// A call that fails leaves nothing behind for the next one.
func TestCallsDoNotTouchOneAnother(t *testing.T) { // R1, R5
	l := parts(part(0, 0), part(1, 0))
	half := at(0, 64, 64)
	for range 3 {
		checkPut(t, l, half, 7, "\x02\x02\x02", api.OK)
		checkPut(t, l, at(0, 128), 7, "", api.ErrArg)
		checkPut(t, l, half, 8, "", api.ErrForm)
		checkGet(t, "\x02\x02\x02", 3, half, 7, nil, api.ErrForm)
		checkGet(t, "\x02\x02\x02", -1, half, 7, nil, api.ErrArg)
		checkGet(t, "\x02\x02\x02", 2, half, 8, nil, api.ErrForm)
		checkGet(t, "\x02\x02\x02", 2, half, 7, l, api.OK)
	}
}
