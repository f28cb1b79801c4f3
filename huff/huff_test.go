package huff_test

import (
	"math"
	"slices"
	"strconv"
	"strings"
	"testing"

	"wringer/api"
	"wringer/canon"
	"wringer/huff"
	"wringer/zig"
)

// at tells Classes numbers: those of l from a place on, else 0.
func at(from int, l ...int) []int {
	lens := make([]int, api.Classes)
	copy(lens[from:], l)
	return lens
}

// alike tells n numbers that are all v.
func alike(n, v int) []int { return slices.Repeat([]int{v}, n) }

func part(class int, rest uint64) api.Part { return api.Part{Class: class, Rest: rest} }

func parts(l ...api.Part) []api.Part { return l }

// chain tells numbers that hang on nothing but seed.
func chain(seed uint64) func(below int) int {
	return func(below int) int {
		seed = seed*6364136223846793005 + 1442695040888963407
		return int(seed >> 20 % uint64(below))
	}
}

// deep tells the lengths of codes of which each is a bit longer than the one
// ahead, but the last one.
func deep(most int) []int {
	var l []int
	for n := 1; n <= most; n++ {
		l = append(l, n)
	}
	return append(l, most)
}

// grown tells lengths of so many classes, two or more, that fill all codes: of
// those of two classes one is split again and again.
func grown(next func(int) int, many int) []int {
	l := []int{1, 1}
	for len(l) < many {
		if i := next(len(l)); l[i] < api.MostLim {
			l[i]++
			l = append(l, l[i])
		}
	}
	return l
}

// scattered tells Classes numbers: those of l, each at a place of chance, else 0.
func scattered(next func(int) int, l []int) []int {
	lens := at(0, l...)
	for i := range lens {
		j := i + next(len(lens)-i)
		lens[i], lens[j] = lens[j], lens[i]
	}
	return lens
}

// mixed are lengths that may be, of few classes and of many; only the first one
// has no class.
func mixed(seed uint64) [][]int {
	lists := [][]int{
		at(0), at(0, 1), at(1, 1), at(2, 1), at(30, 1), at(64, 1), at(0, 1, 1), at(63, 1, 1), at(0, 1, 2, 2), at(62, 2, 2, 1),
		at(0, deep(api.MostLim)...), at(49, deep(api.MostLim)...), at(0, alike(64, 6)...), at(1, alike(64, 6)...),
		append(alike(63, 6), 7, 7), append([]int{7, 7}, alike(63, 6)...), at(17, alike(32, 5)...),
	}
	next := chain(seed)
	for many := 2; many <= api.Classes; many += 3 {
		lists = append(lists, scattered(next, grown(next, many)))
	}
	return lists
}

// wrongs are lengths that may not be.
func wrongs() [][]int {
	lists := [][]int{
		nil, {}, {1}, {1, 1}, {1, 2, 2}, alike(64, 0), alike(66, 0), alike(64, 6), append(alike(64, 6), 0, 0), alike(130, 0),
		at(0, 2), at(64, 15), at(0, 1, 2), at(0, 2, 2), at(0, 1, 1, 1), at(0, 1, 1, 15), alike(65, 1), alike(65, 6), alike(65, 15),
		at(0, 16), at(0, 1, 1, 16), at(64, -1), at(0, 1, 1, -1), at(0, deep(16)...), alike(1<<16, 1),
		at(3, math.MinInt), at(3, math.MaxInt), at(0, 1, 1, 64), at(0, 1, 1, 1<<32),
	}
	for _, l := range mixed(1) {
		lists = append(lists, l[:64], append(slices.Clone(l), 0))
	}
	return lists
}

// restBits counts them by hand: of class 0 and 1 none, of the others one less.
func restBits(class int) int {
	if class == 0 {
		return 0
	}
	return class - 1
}

// someOf tells n parts of chance, of classes that lens have a code for, the
// least and the greatest rests among them.
func someOf(next func(int) int, lens []int, n int) []api.Part {
	var classes []int
	for class, length := range lens {
		if length > 0 {
			classes = append(classes, class)
		}
	}
	if len(classes) == 0 {
		return nil
	}
	l := make([]api.Part, n)
	for i := range l {
		class := classes[next(len(classes))]
		rest := uint64(next(1<<32))<<32 | uint64(next(1<<32))
		rest = []uint64{rest, rest, 0, math.MaxUint64}[next(4)] % (1 << restBits(class))
		l[i] = part(class, rest)
	}
	return l
}

// bytesOf tells the bytes of a row of bits, told as digits; other signs between
// them are left out.
func bytesOf(row string) string {
	row = strings.Join(strings.Fields(row), "")
	b := make([]byte, (len(row)+7)/8)
	for i, digit := range row {
		if digit == '1' {
			b[i/8] |= 1 << (i % 8)
		}
	}
	return string(b)
}

// rowOf is the other side, with the bits that fill the last byte up.
func rowOf(s string) string {
	var row strings.Builder
	for i := range len(s) {
		for k := range 8 {
			row.WriteByte('0' + s[i]>>k&1)
		}
	}
	return row.String()
}

// codesOf tells the codes of lengths that may be as digits, by another way: they
// are the places, as fractions of 1, at which the shares of the classes begin
// that lie side by side, the greatest share first.
func codesOf(lens []int) map[int]string {
	codes := map[int]string{}
	place := 0
	for n := 1; n <= api.MostLim; n++ {
		for class, length := range lens {
			if length == n {
				digits := strconv.FormatInt(int64(1<<15+place), 2)
				codes[class] = digits[1 : 1+n]
				place += 1 << (15 - n)
			}
		}
	}
	return codes
}

// restOf tells a rest as digits, the lowest bit first.
func restOf(p api.Part) string {
	n := restBits(p.Class)
	digits := []byte(strconv.FormatUint(p.Rest, 2))
	slices.Reverse(digits)
	return string(digits)[:min(n, len(digits))] + strings.Repeat("0", max(n-len(digits), 0))
}

// expected tells by another way the row of bits of parts that have a code.
func expected(l []api.Part, lens []int) string {
	codes := codesOf(lens)
	var row strings.Builder
	for _, p := range l {
		row.WriteString(codes[p.Class] + restOf(p))
	}
	return row.String()
}

// expectedGet tells by another way what Get answers where lens and n may be.
func expectedGet(s string, n int, lens []int) ([]api.Part, api.Errno) {
	codes := codesOf(lens)
	row := rowOf(s)
	var l []api.Part
	for range n {
		class, e := expectedClass(row, codes)
		if e != api.OK {
			return nil, e
		}
		row = row[len(codes[class]):]
		if len(row) < restBits(class) {
			return nil, api.ErrMore
		}
		digits := []byte(row[:restBits(class)])
		row = row[restBits(class):]
		slices.Reverse(digits)
		rest, _ := strconv.ParseUint("0"+string(digits), 2, 64)
		l = append(l, part(class, rest))
	}
	if len(row) > 7 || strings.Contains(row, "1") {
		return nil, api.ErrForm
	}
	return l, api.OK
}

// expectedClass asks one more digit at a time which codes begin with them.
func expectedClass(row string, codes map[int]string) (int, api.Errno) {
	for n := 1; n <= len(row); n++ {
		begun := 0
		for class, c := range codes {
			if c == row[:n] {
				return class, api.OK
			}
			if strings.HasPrefix(c, row[:n]) {
				begun++
			}
		}
		if begun == 0 {
			return 0, api.ErrForm
		}
	}
	return 0, api.ErrMore
}

func checkPut(t *testing.T, l []api.Part, lens []int, want string, e api.Errno) {
	t.Helper()
	if s, got := huff.Put(l, lens); got != e || s != want {
		t.Errorf("Put(%v, %d) = %s, %d, want %s, %d", few(l), lens, rowOf(s), got, rowOf(want), e)
	}
}

func checkGet(t *testing.T, s string, n int, lens []int, want []api.Part, e api.Errno) {
	t.Helper()
	l, got := huff.Get(s, n, lens)
	if got != e || !slices.Equal(l, want) || e != api.OK && l != nil {
		t.Errorf("Get(%s, %d, %d) = %v, %d, want %v, %d", rowOf(s[:min(len(s), 50)]), n, lens, few(l), got, few(want), e)
	}
}

// few keeps what a test tells short.
func few(l []api.Part) []api.Part { return l[:min(len(l), 10)] }

// checkBoth holds Put, and Get of it, against the digits that are wanted.
func checkBoth(t *testing.T, l []api.Part, lens []int, row string) {
	t.Helper()
	want := bytesOf(row)
	checkPut(t, l, lens, want, api.OK)
	checkGet(t, want, len(l), lens, l, api.OK)
}

func TestPutOfNothing(t *testing.T) { // 11.1, R3
	for _, lens := range mixed(111) {
		checkBoth(t, nil, lens, "")
		checkBoth(t, []api.Part{}, lens, "")
	}
}

// By hand: the codes of 1, 2, 2 are 0, 10, 11; the highest bit of a code comes
// first, the lowest one of a rest.
func TestPutOfKnownParts(t *testing.T) { // 11.1
	lens := at(0, 1, 2, 2)
	checkBoth(t, parts(part(0, 0)), lens, "0")
	checkBoth(t, parts(part(1, 0)), lens, "10")
	checkBoth(t, parts(part(2, 0)), lens, "11 0")
	checkBoth(t, parts(part(2, 1)), lens, "11 1")
	checkBoth(t, parts(part(0, 0), part(2, 1), part(1, 0)), lens, "0 11 1 10")
	lens = at(4, 2, 1, 3, 3)
	checkBoth(t, parts(part(4, 4)), lens, "10 001")
	checkBoth(t, parts(part(4, 1)), lens, "10 100")
	checkBoth(t, parts(part(5, 9)), lens, "0 1001")
	checkBoth(t, parts(part(5, 2)), lens, "0 0100")
	checkBoth(t, parts(part(6, 12), part(5, 7), part(7, 33), part(4, 6)), lens, "110 00110 0 1110 111 100001 10 011")
	lens = at(0, 3, 0, 3, 2, 0, 0, 0, 1)
	checkBoth(t, parts(part(7, 1), part(3, 2), part(0, 0), part(2, 1), part(2, 0)), lens, "0 100000 10 01 110 111 1 111 0")
}

// As bytes, by hand: bit 0 of a byte comes first.
func TestPutLaysBitsFromTheLowestOn(t *testing.T) { // 11.1
	lens := at(0, 1, 2, 2)
	checkPut(t, parts(part(0, 0), part(2, 1), part(1, 0)), lens, "\x1e", api.OK)
	checkPut(t, parts(part(2, 0), part(2, 1), part(0, 0), part(0, 0)), lens, "\x3b", api.OK)
	checkPut(t, parts(part(1, 0), part(1, 0), part(1, 0), part(1, 0), part(1, 0)), lens, "\x55\x01", api.OK)
	checkPut(t, parts(part(5, 9)), at(5, 1), "\x12", api.OK)
}

func TestOneClassAlone(t *testing.T) { // 11.1, 11.2
	for class := range api.Classes {
		lens := at(class, 1)
		checkBoth(t, parts(part(class, 0)), lens, "0"+strings.Repeat("0", restBits(class)))
		checkBoth(t, slices.Repeat(parts(part(class, 0)), 9), lens, strings.Repeat("0", 9*(1+restBits(class))))
		if class > 1 {
			most := uint64(1)<<restBits(class) - 1
			checkBoth(t, parts(part(class, most), part(class, 1)), lens,
				"0"+strings.Repeat("1", restBits(class))+"01"+strings.Repeat("0", restBits(class)-1))
		}
	}
}

// By hand: each code is one bit 1 more than the one ahead, and a bit 0; the last
// one has bits 1 alone.
func TestCodesOf15Bits(t *testing.T) { // 11.1, 11.2
	lens := at(0, deep(15)...)
	for class := range 16 {
		row := strings.Repeat("1", class) + "0"
		if class == 15 {
			row = strings.Repeat("1", 15)
		}
		checkBoth(t, parts(part(class, 0)), lens, row+strings.Repeat("0", restBits(class)))
	}
	checkBoth(t, parts(part(14, 1), part(15, 1<<13), part(0, 0)), lens,
		"111111111111110 1000000000000"+"111111111111111 00000000000001"+"0")
	lens = at(49, deep(15)...)
	checkBoth(t, parts(part(64, 1<<63-1)), lens, strings.Repeat("1", 15)+strings.Repeat("1", 63))
	checkBoth(t, parts(part(63, 2)), lens, strings.Repeat("1", 14)+"0"+"01"+strings.Repeat("0", 60))
}

func TestPartsWithoutARest(t *testing.T) { // 11.1, 11.2
	checkBoth(t, parts(part(0, 0), part(1, 0), part(1, 0), part(0, 0)), at(0, 1, 1), "0110")
	checkBoth(t, parts(part(1, 0), part(0, 0), part(1, 0), part(0, 0)), at(0, 2, 2, 2, 2), "01 00 01 00")
	checkBoth(t, parts(part(1, 0), part(2, 1), part(0, 0), part(2, 0)), at(0, 2, 1, 2), "0 11 1 10 11 0")
}

func TestPartsOfClass64(t *testing.T) { // 11.1, 11.2
	lens := at(64, 1)
	checkBoth(t, parts(part(64, 1)), lens, "0 1"+strings.Repeat("0", 62))
	checkBoth(t, parts(part(64, 1<<62)), lens, "0 "+strings.Repeat("0", 62)+"1")
	checkBoth(t, parts(part(64, 1<<63-1)), lens, "0 "+strings.Repeat("1", 63))
	checkBoth(t, parts(part(64, 1<<63-2)), lens, "0 0"+strings.Repeat("1", 62))
	checkBoth(t, parts(part(64, 0), part(64, 1<<63-1), part(64, 5)), lens,
		strings.Repeat("0", 64)+"0"+strings.Repeat("1", 63)+"0101"+strings.Repeat("0", 60))
	lens[0] = 1
	checkBoth(t, parts(part(0, 0), part(64, 2), part(0, 0)), lens, "0 1 01"+strings.Repeat("0", 61)+"0")
}

func TestPutOfManyParts(t *testing.T) { // 11.1
	next := chain(112)
	for _, lens := range mixed(112) {
		for _, n := range []int{1, 2, 7, 100, 600} {
			l := someOf(next, lens, n)
			checkPut(t, l, lens, bytesOf(expected(l, lens)), api.OK)
		}
	}
}

// Put is of as many parts as there are: MaxBlock is a limit of Get alone.
func TestPutOfMoreThanABlock(t *testing.T) { // 11.1
	l := slices.Repeat(parts(part(1, 0)), api.MaxBlock+1)
	checkPut(t, l, at(0, 1, 1), strings.Repeat("\xff", api.MaxBlock/8)+"\x01", api.OK)
	l = append(slices.Repeat(l, 3), part(1, 1))
	checkPut(t, l, at(0, 1, 1), "", api.ErrArg)
}

func TestPutByLengthsThatMayNotBe(t *testing.T) { // 11.1, R2
	for _, lens := range wrongs() {
		for _, l := range [][]api.Part{
			nil, {}, {part(0, 0)}, {part(1, 0), part(2, 1)}, {part(64, 5)},
			{part(9, 1<<9)}, {part(-1, 0)}, {part(65, 0)}, {part(0, 1)}, {part(math.MinInt, 0), part(math.MaxInt, 7)},
		} {
			checkPut(t, l, lens, "", api.ErrForm)
		}
	}
}

// outsiders are parts without a Join.
func outsiders() []api.Part {
	l := parts(part(0, 1), part(0, 2), part(0, 1<<63), part(0, math.MaxUint64))
	for class := 1; class < api.Classes; class++ {
		room := uint64(1) << restBits(class)
		l = append(l, part(class, room), part(class, room+1), part(class, 1<<63), part(class, math.MaxUint64))
	}
	for _, class := range []int{
		-1, -2, -63, -64, -65, -256, math.MinInt32, math.MinInt, math.MinInt + 1,
		65, 66, 127, 128, 129, 255, 256, 257, 1 << 16, 1 << 32, math.MaxInt32, math.MaxInt,
	} {
		l = append(l, part(class, 0), part(class, 1), part(class, math.MaxUint64))
	}
	return l
}

// Each one stands alone, ahead of others and behind others, by lengths that have
// a code for each class that there is.
func TestPutOfPartsWithoutAJoin(t *testing.T) { // 11.1
	lens := append(alike(63, 6), 7, 7)
	ahead := someOf(chain(113), lens, 5)
	for _, p := range outsiders() {
		if _, ok := zig.Join(p); ok {
			t.Errorf("%v has a Join", p)
		}
		checkPut(t, parts(p), lens, "", api.ErrArg)
		checkPut(t, append(slices.Clone(ahead), p), lens, "", api.ErrArg)
		checkPut(t, append(parts(p), ahead...), lens, "", api.ErrArg)
		checkPut(t, parts(p), at(0), "", api.ErrArg)
		if p.Class >= 0 && p.Class < api.Classes {
			checkPut(t, parts(p), at(p.Class, 1), "", api.ErrArg)
		}
	}
}

// What has a Join and a code is put, whatever its rest.
func TestPutOfPartsWithAJoin(t *testing.T) { // 11.1, 11.3
	lens := append([]int{7, 7}, alike(63, 6)...)
	for class := range api.Classes {
		room := uint64(1) << restBits(class)
		for _, rest := range []uint64{0, 1, room / 3, room / 2, room - 1} {
			p := part(class, rest)
			if _, ok := zig.Join(p); ok {
				checkBoth(t, parts(p), lens, expected(parts(p), lens))
			}
		}
	}
}

func TestPutOfAClassWithoutACode(t *testing.T) { // 11.1
	for _, lens := range mixed(114) {
		ahead := someOf(chain(115), lens, 4)
		for class, n := range lens {
			if n > 0 {
				continue
			}
			checkPut(t, parts(part(class, 0)), lens, "", api.ErrArg)
			checkPut(t, append(slices.Clone(ahead), part(class, 0)), lens, "", api.ErrArg)
			checkPut(t, append(parts(part(class, 0)), ahead...), lens, "", api.ErrArg)
		}
	}
}

func TestGetByLengthsThatMayNotBe(t *testing.T) { // 11.2, R2
	for _, lens := range wrongs() {
		for _, n := range []int{0, 1, 2, api.MaxBlock, api.MaxBlock + 1, -1, math.MinInt, math.MaxInt} {
			for _, s := range []string{"", "\x00", "\x01", "\xff\xff\xff"} {
				checkGet(t, s, n, lens, nil, api.ErrForm)
			}
		}
	}
}

// The number is asked ahead of the bytes.
func TestGetOfANumberThatMayNotBe(t *testing.T) { // 11.2, R2
	for _, lens := range mixed(116) {
		for _, n := range []int{-1, -2, -api.MaxBlock, math.MinInt32, math.MinInt, api.MaxBlock + 1, 2 * api.MaxBlock, 1 << 31, 1 << 32, math.MaxInt} {
			for _, s := range []string{"", "\x00", "\x01", strings.Repeat("\x00", 1<<10), strings.Repeat("\xff", 1<<10)} {
				checkGet(t, s, n, lens, nil, api.ErrArg)
			}
		}
	}
}

func TestGetOfAWholeBlock(t *testing.T) { // 11.2, 11.3
	for _, n := range []int{api.MaxBlock - 1, api.MaxBlock} {
		l := slices.Repeat(parts(part(1, 0)), n)
		checkBoth(t, l, at(0, 1, 1), strings.Repeat("1", n))
		lens := at(49, deep(api.MostLim)...)
		l = someOf(chain(117), lens, n)
		checkBoth(t, l, lens, expected(l, lens))
	}
	lens := at(64, 1)
	l := slices.Repeat(parts(part(64, 1<<63-1)), api.MaxBlock)
	checkBoth(t, l, lens, expected(l, lens))
	s, _ := huff.Put(append(l, part(64, 0)), lens)
	checkGet(t, s, api.MaxBlock, lens, nil, api.ErrForm)
	checkGet(t, s, api.MaxBlock+1, lens, nil, api.ErrArg)
}

func TestGetOfPut(t *testing.T) { // 11.3
	next := chain(118)
	for _, lens := range mixed(118) {
		for _, n := range []int{0, 1, 2, 3, 8, 50, 700} {
			l := someOf(next, lens, n)
			s, e := huff.Put(l, lens)
			if e != api.OK {
				t.Errorf("Put(%v, %d): %d", few(l), lens, e)
			}
			checkGet(t, s, len(l), lens, l, api.OK)
		}
	}
}

// Of numbers of all sizes, the ends among them.
func TestGetOfPutOfNumbers(t *testing.T) { // 11.3
	lens := append(alike(63, 6), 7, 7)
	l := parts(zig.Split(0), zig.Split(math.MinInt64), zig.Split(math.MaxInt64))
	for i := range 63 {
		l = append(l, zig.Split(1<<i), zig.Split(-1<<i), zig.Split(1<<i-1), zig.Split(-1<<i-1))
	}
	s, e := huff.Put(l, lens)
	if e != api.OK {
		t.Error("Put:", e)
	}
	checkGet(t, s, len(l), lens, l, api.OK)
}

func TestGetOfBytesThatEndTooEarly(t *testing.T) { // 11.2
	next := chain(119)
	for _, lens := range mixed(119) {
		for _, n := range []int{1, 2, 5, 20} {
			l := someOf(next, lens, n)
			s, _ := huff.Put(l, lens)
			for i := range len(s) {
				checkGet(t, s[:i], len(l), lens, nil, api.ErrMore)
			}
		}
	}
}

// In a code, in a rest, and between two parts.
func TestWhereBytesEnd(t *testing.T) { // 11.2
	lens := at(0, deep(api.MostLim)...)
	checkGet(t, "", 1, lens, nil, api.ErrMore)
	checkGet(t, "", api.MaxBlock, lens, nil, api.ErrMore)
	checkGet(t, "\xff", 1, lens, nil, api.ErrMore)
	checkGet(t, "\xff\x3f", 1, lens, nil, api.ErrMore)
	checkGet(t, "\xff\xff", 1, lens, nil, api.ErrMore)
	checkGet(t, bytesOf("0000 0000"), 8, lens, slices.Repeat(parts(part(0, 0)), 8), api.OK)
	checkGet(t, bytesOf("0000 0000"), 9, lens, nil, api.ErrMore)
	checkGet(t, bytesOf("10 10 10 10"), 4, lens, slices.Repeat(parts(part(1, 0)), 4), api.OK)
	checkGet(t, bytesOf("10 10 10 10"), 5, lens, nil, api.ErrMore)
	checkGet(t, bytesOf("00000 110"), 6, lens, nil, api.ErrMore)
	checkGet(t, bytesOf("00000 110 1"), 6, lens, append(slices.Repeat(parts(part(0, 0)), 5), part(2, 1)), api.OK)
}

// One class alone has half of the codes: what begins with a bit 1 is none.
func TestGetOfBitsThatBeginNoCode(t *testing.T) { // 11.2
	for class := range api.Classes {
		lens := at(class, 1)
		long := strings.Repeat("\xff", 20)
		checkGet(t, "\x01", 1, lens, nil, api.ErrForm)
		checkGet(t, "\x01", api.MaxBlock, lens, nil, api.ErrForm)
		checkGet(t, "\x01"+long, 1, lens, nil, api.ErrForm)
		checkGet(t, long, 2, lens, nil, api.ErrForm)
		l := parts(part(class, 0), part(class, 0), part(class, 0))
		row := expected(l, lens)
		checkGet(t, bytesOf(row+"1"), 4, lens, nil, api.ErrForm)
		checkGet(t, bytesOf(row+"1")+long, 4, lens, nil, api.ErrForm)
	}
}

// Where no class has a code the first bit is already wrong, but must be there.
func TestGetWhereNoClassHasACode(t *testing.T) { // 11.2
	for _, n := range []int{1, 2, api.MaxBlock} {
		checkGet(t, "", n, at(0), nil, api.ErrMore)
		for _, s := range []string{"\x00", "\x01", "\x02", "\xff", "\x00\x00", strings.Repeat("\x00", 1000)} {
			checkGet(t, s, n, at(0), nil, api.ErrForm)
		}
	}
	checkGet(t, "", 0, at(0), nil, api.OK)
	checkGet(t, "\x00", 0, at(0), nil, api.ErrForm)
}

// Bit by bit: what comes first counts, a wrong bit or the end.
func TestWhichErrorComesFirst(t *testing.T) { // 11.2, R2
	lens := at(0, 1)
	checkGet(t, "\x80", 8, lens, nil, api.ErrForm)
	checkGet(t, "\x80", 9, lens, nil, api.ErrForm)
	checkGet(t, "\x00", 9, lens, nil, api.ErrMore)
	checkGet(t, "\x00\x01", 9, lens, nil, api.ErrForm)
	checkGet(t, "\x00\x02", 9, lens, nil, api.ErrForm)
	checkGet(t, "\x00\x02", 17, lens, nil, api.ErrForm)
	lens = at(64, 1)
	checkGet(t, "\x01", 1, lens, nil, api.ErrForm)
	checkGet(t, "\x02", 1, lens, nil, api.ErrMore)
	checkGet(t, strings.Repeat("\xfe", 7), 1, lens, nil, api.ErrMore)
	checkGet(t, strings.Repeat("\x00", 8), 2, lens, nil, api.ErrMore)
	checkGet(t, strings.Repeat("\x00", 8)+"\x01", 2, lens, nil, api.ErrForm)
	checkGet(t, strings.Repeat("\x00", 8)+"\x02", 2, lens, nil, api.ErrMore)
	checkGet(t, strings.Repeat("\x00", 9), 1, lens, nil, api.ErrForm)
}

func TestGetOfBytesTooMany(t *testing.T) { // 11.2
	next := chain(120)
	for _, lens := range mixed(120) {
		for _, n := range []int{0, 1, 3, 8, 30} {
			l := someOf(next, lens, n)
			s, _ := huff.Put(l, lens)
			for _, behind := range []string{"\x00", "\x01", "\x80", "\xff", "\x00\x00", strings.Repeat("\x00", 99)} {
				checkGet(t, s+behind, len(l), lens, nil, api.ErrForm)
			}
		}
	}
}

// Each bit behind the last part is turned.
func TestGetOfABitBehindTheLastPart(t *testing.T) { // 11.2
	next := chain(121)
	turned := 0
	for _, lens := range mixed(121) {
		for range 10 {
			l := someOf(next, lens, 1+next(6))
			row := expected(l, lens)
			for len(row)%8 > 0 {
				checkGet(t, bytesOf(row+"1"), len(l), lens, nil, api.ErrForm)
				row += "0"
				checkGet(t, bytesOf(row), len(l), lens, l, api.OK)
				turned++
			}
		}
	}
	if turned < 300 {
		t.Error("only", turned, "bits were behind")
	}
}

// One bit of a Put is turned.
func TestGetOfBytesWithABitThatIsTurned(t *testing.T) { // 11.2
	next := chain(122)
	for _, lens := range mixed(122) {
		l := someOf(next, lens, 4)
		s, _ := huff.Put(l, lens)
		for i := range 8 * len(s) {
			turned := []byte(s)
			turned[i/8] ^= 1 << (i % 8)
			want, e := expectedGet(string(turned), len(l), lens)
			checkGet(t, string(turned), len(l), lens, want, e)
		}
	}
}

// Bytes of chance, and numbers about as many as they may tell.
func TestGetOfBytesOfChance(t *testing.T) { // 11.2, R1
	next := chain(123)
	lists := mixed(123)
	seen := map[api.Errno]int{}
	for i := range 8000 {
		lens := lists[i%len(lists)]
		b := make([]byte, next(5))
		for k := range b {
			b[k] = byte(next(256)) & []byte{255, 0, 3, 240}[next(4)]
		}
		n := next(len(b)*4 + 1)
		want, e := expectedGet(string(b), n, lens)
		checkGet(t, string(b), n, lens, want, e)
		seen[e]++
	}
	if seen[api.OK] < 100 || seen[api.ErrMore] < 100 || seen[api.ErrForm] < 100 {
		t.Error("of too few kinds:", seen)
	}
}

// All bytes of two, by codes of few bits: whatever Get takes, its Put it is.
func TestPutOfGet(t *testing.T) { // 11.1, 11.2
	for _, lens := range [][]int{at(0, 1), at(0, 1, 1), at(0, 1, 2, 2), at(0, 2, 1, 2), at(1, 2, 3, 3, 1), at(2, 1)} {
		for v := range 1 << 16 {
			s := string([]byte{byte(v), byte(v >> 8)})
			n := 4 + v%7
			l, e := huff.Get(s, n, lens)
			if e != api.OK {
				continue
			}
			if put, e := huff.Put(l, lens); len(l) != n || e != api.OK || put != s {
				t.Fatalf("Get(%s, %d, %d) = %v", rowOf(s), n, lens, l)
			}
		}
	}
}

// Of many bytes no more than those of the parts are asked for.
func TestGetOfManyBytes(t *testing.T) { // 11.2, R1
	s := strings.Repeat("\x00", 1<<22)
	checkGet(t, s, 0, at(0, 1), nil, api.ErrForm)
	checkGet(t, s, api.MaxBlock, at(64, 1), nil, api.ErrForm)
	checkGet(t, s, 1, at(0), nil, api.ErrForm)
	checkGet(t, strings.Repeat("\xff", 1<<22), api.MaxBlock, at(0, 1, 1), nil, api.ErrForm)
}

func TestWhatIsHandedInStays(t *testing.T) { // R3
	next := chain(124)
	for _, lens := range append(mixed(124), wrongs()...) {
		given := slices.Concat(lens, []int{7, 1, 2})
		was := slices.Clone(given)
		l := parts(part(1, 0), part(3, 9))
		if canon.May(lens) {
			l = someOf(next, lens, 20)
		}
		room := slices.Concat(l, parts(part(5, 5), part(-1, 1)))
		wasRoom := slices.Clone(room)
		s, _ := huff.Put(room[:len(l)], given[:len(lens)])
		huff.Put(room, given[:len(lens)])
		kept := strings.Clone(s)
		huff.Get(s, len(l), given[:len(lens)])
		if !slices.Equal(given, was) || !slices.Equal(room, wasRoom) || s != kept {
			t.Errorf("a call changed what it was given: %d, %v", lens, few(l))
		}
	}
}

// What lies behind a list's end is none of it.
func TestSpareRoomIsNotAsked(t *testing.T) { // R3
	next := chain(125)
	for _, lens := range mixed(125) {
		l := someOf(next, lens, 9)
		room := slices.Concat(l, parts(part(-1, 1), part(0, 7)))
		more := slices.Concat(lens, alike(9, 1))
		s := bytesOf(expected(l, lens))
		checkPut(t, room[:len(l)], more[:len(lens)], s, api.OK)
		checkGet(t, s, len(l), more[:len(lens)], l, api.OK)
	}
}

// overwrite writes into all of l, its spare room too.
func overwrite[T any](l []T, v T) {
	l = l[:cap(l)]
	for i := range l {
		l[i] = v
	}
}

func TestWhatIsToldIsNewMemory(t *testing.T) { // R3, R5
	next := chain(126)
	for _, lens := range mixed(126) {
		l := someOf(next, lens, 12)
		givenLens, given := slices.Clone(lens), slices.Clone(l)
		s, _ := huff.Put(given, givenLens)
		one, _ := huff.Get(s, len(l), givenLens)
		two, _ := huff.Get(s, len(l), givenLens)
		overwrite(givenLens, 99)
		overwrite(given, part(9, 9))
		overwrite(one, part(7, 7))
		_ = append(one, part(8, 8))
		if s != bytesOf(expected(l, lens)) || !slices.Equal(two, l) {
			t.Errorf("an answer hangs on other memory: %d, %v", lens, few(l))
		}
		checkPut(t, l, lens, s, api.OK)
		checkGet(t, s, len(l), lens, l, api.OK)
	}
}

// A call that fails leaves nothing behind for the next one.
func TestCallsDoNotTouchOneAnother(t *testing.T) { // R1, R5
	l := parts(part(0, 0), part(2, 1), part(1, 0))
	for range 3 {
		checkPut(t, l, at(0, 1, 2, 2), "\x1e", api.OK)
		checkPut(t, l, at(0, 1), "", api.ErrArg)
		checkPut(t, l, at(0, 1, 2), "", api.ErrForm)
		checkGet(t, "\x1e", 3, at(0, 1), nil, api.ErrForm)
		checkGet(t, "\x1e", 9, at(0, 1, 2, 2), nil, api.ErrMore)
		checkGet(t, "\x1e", 3, at(0, 1, 2, 2), l, api.OK)
	}
}
