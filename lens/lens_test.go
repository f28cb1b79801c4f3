package lens_test

import (
	"math"
	"regexp"
	"slices"
	"strconv"
	"strings"
	"testing"

	"wringer/api"
	"wringer/canon"
	"wringer/lens"
)

// at tells Classes numbers: those of l from a place on, else 0.
func at(from int, l ...int) []int {
	lens := make([]int, api.Classes)
	copy(lens[from:], l)
	return lens
}

// alike tells n numbers that are all v.
func alike(n, v int) []int { return slices.Repeat([]int{v}, n) }

// chain tells numbers that hang on nothing but seed.
func chain(seed uint64) func(below int) int {
	return func(below int) int {
		seed = seed*6364136223846793005 + 1442695040888963407
		return int(seed >> 20 % uint64(below))
	}
}

// deep tells the lengths of codes of which each is a bit longer than the one
// ahead, but the last one.
func deep(most int) []int {
	var l []int
	for n := 1; n <= most; n++ {
		l = append(l, n)
	}
	return append(l, most)
}

// grown tells lengths of so many classes, two or more, that fill all codes: of
// those of two classes one is split again and again.
func grown(next func(int) int, many int) []int {
	l := []int{1, 1}
	for len(l) < many {
		if i := next(len(l)); l[i] < api.MostLim {
			l[i]++
			l = append(l, l[i])
		}
	}
	return l
}

// scattered tells Classes numbers: those of l, each at a place of chance, else 0.
func scattered(next func(int) int, l []int) []int {
	lens := at(0, l...)
	for i := range lens {
		j := i + next(len(lens)-i)
		lens[i], lens[j] = lens[j], lens[i]
	}
	return lens
}

// mixed are lengths that may be, of few classes and of many.
func mixed(seed uint64) [][]int {
	lists := [][]int{
		at(0), at(0, 1), at(30, 1), at(64, 1), at(0, 1, 1), at(63, 1, 1), at(0, 1, 2, 2), at(62, 2, 2, 1),
		at(0, deep(api.MostLim)...), at(49, deep(api.MostLim)...), at(0, alike(64, 6)...), at(1, alike(64, 6)...),
		append(alike(63, 6), 7, 7), append([]int{7, 7}, alike(63, 6)...), at(0, alike(32, 5)...), at(17, alike(32, 5)...),
	}
	next := chain(seed)
	for many := 2; many <= api.Classes; many++ {
		for range 4 {
			lists = append(lists, scattered(next, grown(next, many)))
		}
	}
	return lists
}

// bytesOf tells the bytes of numbers of four bits each, told as hex digits; of
// an odd one the last upper half is 0.
func bytesOf(digits string) string {
	if len(digits)%2 == 1 {
		digits += "0"
	}
	var b []byte
	for i := 0; i < len(digits); i += 2 {
		v, err := strconv.ParseUint(digits[i+1:i+2]+digits[i:i+1], 16, 8)
		if err != nil {
			panic(err)
		}
		b = append(b, byte(v))
	}
	return string(b)
}

// digitsOf is the other side.
func digitsOf(s string) string {
	var d strings.Builder
	for i := range len(s) {
		h := strconv.FormatUint(uint64(s[i])+256, 16)
		d.WriteString(h[2:3] + h[1:2])
	}
	return d.String()
}

var noughts = regexp.MustCompile("0{1,16}")

// expected tells by another way the Put of lengths that may be: each one is a
// digit of a text, in which each row of noughts is replaced.
func expected(lens []int) string {
	var d strings.Builder
	for _, n := range lens {
		d.WriteString(strconv.FormatInt(int64(n), 16))
	}
	return bytesOf(noughts.ReplaceAllStringFunc(d.String(), func(row string) string {
		return "0" + strconv.FormatInt(int64(len(row)-1), 16)
	}))
}

var told = regexp.MustCompile("^(?:0([0-9a-f])|([1-9a-f]))")

// expectedGet tells by another way what Get answers where at is a place of s.
func expectedGet(s string, at int) ([]int, int, api.Errno) {
	d := digitsOf(s[at:])
	var l []int
	for len(l) < api.Classes {
		m := told.FindStringSubmatch(d)
		if m == nil {
			return nil, 0, api.ErrMore
		}
		d = d[len(m[0]):]
		v, _ := strconv.ParseInt(m[1]+m[2], 16, 0)
		if m[1] != "" {
			l = append(l, alike(int(v)+1, 0)...)
		} else {
			l = append(l, int(v))
		}
	}
	next := len(s) - len(d)/2
	if !canon.May(l) || s[at:next] != expected(l) {
		return nil, 0, api.ErrForm
	}
	return l, next, api.OK
}

func checkGet(t *testing.T, s string, at int, want []int, next int, e api.Errno) {
	t.Helper()
	l, n, got := lens.Get(s, at)
	if got != e || n != next || !slices.Equal(l, want) || e != api.OK && l != nil {
		t.Errorf("Get(%q, %d) = %d, %d, %d, want %d, %d, %d", s, at, l, n, got, want, next, e)
	}
}

func checkError(t *testing.T, s string, at int, e api.Errno) {
	t.Helper()
	checkGet(t, s, at, nil, 0, e)
}

// checkBoth holds Put, and Get of it, against the digits that are wanted.
func checkBoth(t *testing.T, l []int, digits string) {
	t.Helper()
	want := bytesOf(digits)
	if got := lens.Put(l); got != want {
		t.Errorf("Put(%d) = %s, want %s", l, digitsOf(got), digitsOf(want))
	}
	checkGet(t, want, 0, l, len(want), api.OK)
}

func TestPutOfAllNoughts(t *testing.T) { // 10.1
	want := string([]byte{240, 240, 240, 240, 0})
	if got := lens.Put(at(0)); got != want {
		t.Errorf("%q", got)
	}
	checkGet(t, want, 0, at(0), 5, api.OK)
}

// By hand: a length is its digit, a row of noughts 0 and one less than it has.
func TestPutOfKnownLengths(t *testing.T) { // 10.1
	checkBoth(t, at(0, 1), "1"+"0f0f0f0f")
	checkBoth(t, at(64, 1), "0f0f0f0f"+"1")
	checkBoth(t, at(0, 1, 1), "11"+"0f0f0f0e")
	checkBoth(t, at(63, 1, 1), "0f0f0f0e"+"11")
	checkBoth(t, at(0, 1, 2, 2), "122"+"0f0f0f0d")
	checkBoth(t, at(0, 2, 1, 2), "212"+"0f0f0f0d")
	checkBoth(t, at(0, 1, 0, 2, 0, 0, 2), "1"+"00"+"2"+"01"+"2"+"0f0f0f0a")
	checkBoth(t, at(0, 0, 0, 1, 0, 0, 0, 2, 2), "01"+"1"+"02"+"22"+"0f0f0f08")
	checkBoth(t, at(30, 2, 2, 0, 0, 0, 2, 2), "0f0d"+"22"+"02"+"22"+"0f0b")
	checkBoth(t, at(0, deep(15)...), "123456789abcdeff"+"0f0f0f00")
	checkBoth(t, at(49, deep(15)...), "0f0f0f00"+"123456789abcdeff")
	checkBoth(t, at(0, alike(64, 6)...), strings.Repeat("6", 64)+"00")
	checkBoth(t, at(1, alike(64, 6)...), "00"+strings.Repeat("6", 64))
	checkBoth(t, append(alike(63, 6), 7, 7), strings.Repeat("6", 63)+"77")
	checkBoth(t, append([]int{7, 7}, alike(63, 6)...), "77"+strings.Repeat("6", 63))
}

// The lower half of a byte comes first.
func TestPutLaysTheLowerHalfFirst(t *testing.T) { // 10.1
	want := string([]byte{0x21, 0x02, 0x0f, 0x0f, 0x0f, 0x0d})
	if got := lens.Put(at(0, 1, 2, 2)); got != want {
		t.Errorf("%q, want %q", got, want)
	}
}

// By hand: rows of noughts ahead of a length, behind one, and between two.
func TestRowsOfNoughts(t *testing.T) { // 10.1
	for _, c := range []struct {
		n            int
		row, further string // further: those up to 64 of all
	}{
		{1, "00", "0f0f0f0e"}, {2, "01", "0f0f0f0d"}, {15, "0e", "0f0f0f00"}, {16, "0f", "0f0f0f"}, {17, "0f00", "0f0f0e"},
		{31, "0f0e", "0f0f00"}, {32, "0f0f", "0f0f"}, {33, "0f0f00", "0f0e"}, {47, "0f0f0e", "0f00"}, {48, "0f0f0f", "0f"},
		{49, "0f0f0f00", "0e"}, {63, "0f0f0f0e", "00"}, {64, "0f0f0f0f", ""},
	} {
		checkBoth(t, at(c.n, 1), c.row+"1"+c.further)
		checkBoth(t, at(64-c.n, 1), c.further+"1"+c.row)
	}
	checkBoth(t, at(0, append(append([]int{1}, alike(15, 0)...), 1)...), "1"+"0e"+"1"+"0f0f0f")
	checkBoth(t, at(0, append(append([]int{1}, alike(16, 0)...), 1)...), "1"+"0f"+"1"+"0f0f0e")
	checkBoth(t, at(0, append(append([]int{1}, alike(17, 0)...), 1)...), "1"+"0f00"+"1"+"0f0f0d")
	checkBoth(t, at(0, append(append([]int{1}, alike(32, 0)...), 1)...), "1"+"0f0f"+"1"+"0f0e")
}

// rowOf counts a row by hand: as many of 16 as there are, and what is left.
func rowOf(n int) string {
	s := strings.Repeat("0f", n/16)
	if n%16 > 0 {
		s += "0" + strconv.FormatInt(int64(n%16-1), 16)
	}
	return s
}

// Two lengths of 1, wherever they stand: all rows that may stand ahead, between
// and behind.
func TestTwoClassesAtAllPlaces(t *testing.T) { // 10.1, 10.2
	for a := range api.Classes {
		for b := range a {
			l := at(a, 1)
			l[b] = 1
			checkBoth(t, l, rowOf(b)+"1"+rowOf(a-b-1)+"1"+rowOf(64-a))
		}
		checkBoth(t, at(a, 1), rowOf(a)+"1"+rowOf(64-a))
	}
}

func TestPutOfManyLists(t *testing.T) { // 10.1
	for _, l := range mixed(101) {
		if got, want := lens.Put(l), expected(l); got != want {
			t.Errorf("Put(%d) = %s, want %s", l, digitsOf(got), digitsOf(want))
		}
	}
}

func TestPutOfLengthsThatMayNotBe(t *testing.T) { // 10.1
	wrong := [][]int{
		nil, {}, {1}, {1, 1}, {1, 2, 2}, alike(64, 0), alike(66, 0), alike(64, 6), append(alike(64, 6), 0, 0), alike(130, 0),
		at(0, 2), at(64, 15), at(0, 1, 2), at(0, 2, 2), at(0, 1, 1, 1), at(0, 1, 1, 15), alike(65, 1), alike(65, 6), alike(65, 15),
		at(0, 16), at(0, 1, 1, 16), at(64, -1), at(0, 1, 1, -1), at(0, deep(16)...), alike(1<<16, 0), alike(1<<16, 1),
	}
	for _, n := range []int{-1, -16, 16, 17, 32, 64, 256, 1 << 32, math.MinInt, math.MaxInt} {
		wrong = append(wrong, at(0, n), at(64, n), at(0, 1, 1, n), append([]int{n}, alike(64, 6)...), alike(65, n))
	}
	for _, l := range mixed(102) {
		wrong = append(wrong, l[:64], l[1:], append(slices.Clone(l), 0), append(slices.Clone(l), l...))
		for _, n := range []int{0, 1, 7, 15, 16, -1} {
			if turned := append(slices.Clone(l[:64]), n); !canon.May(turned) {
				wrong = append(wrong, turned)
			}
		}
	}
	for _, l := range wrong {
		if got := lens.Put(l); got != "" {
			t.Errorf("Put(%d) = %s", l, digitsOf(got))
		}
	}
}

func TestGetOfPut(t *testing.T) { // 10.2
	for _, l := range mixed(103) {
		s := lens.Put(l)
		for _, ahead := range []string{"", "x", "\x00", "\xff\x0f", strings.Repeat("\xf0", 9), s} {
			for _, behind := range []string{"", "\x00", "\xf0", "\x01", "\xff\xff", strings.Repeat("\xf0", 9), s} {
				checkGet(t, ahead+s+behind, len(ahead), l, len(ahead)+len(s), api.OK)
			}
		}
	}
}

func TestGetOfManyOneBehindAnother(t *testing.T) { // 10.2
	lists := mixed(104)
	var s strings.Builder
	for _, l := range lists {
		s.WriteString(lens.Put(l))
	}
	place := 0
	for _, want := range lists {
		l, next, e := lens.Get(s.String(), place)
		if e != api.OK || next != place+len(lens.Put(want)) || !slices.Equal(l, want) {
			t.Fatalf("at %d: %d, %d, %d, want %d", place, l, next, e, want)
		}
		place = next
	}
	if place != s.Len() {
		t.Error("the last one ends at", place, "of", s.Len())
	}
}

func TestGetOutsideOfTheBytes(t *testing.T) { // 10.1, R3
	all := lens.Put(at(0))
	for _, s := range []string{"", "x", all, all + all, lens.Put(at(0, 1))} {
		for _, place := range []int{-1, -2, -5, -len(s) - 1, math.MinInt, math.MinInt + 1, len(s) + 1, len(s) + 2, len(s) * 8, len(s) + 256, 1 << 32, 1 << 61, math.MaxInt, math.MaxInt - 1} {
			if place >= 0 && place <= len(s) {
				continue
			}
			checkError(t, s, place, api.ErrArg)
		}
		checkError(t, s, len(s), api.ErrMore)
	}
}

func TestGetOfBytesThatEndTooEarly(t *testing.T) { // 10.1
	for _, l := range mixed(105) {
		s := lens.Put(l)
		for n := range len(s) {
			checkError(t, s[:n], 0, api.ErrMore)
			checkError(t, "\xf0"+s[:n], 1, api.ErrMore)
		}
	}
}

// A row's first half is there, but how many it has is not.
func TestGetOfHalfARow(t *testing.T) { // 10.1
	checkError(t, bytesOf("10"), 0, api.ErrMore)
	checkError(t, bytesOf("1220"), 0, api.ErrMore)
	checkError(t, bytesOf(strings.Repeat("6", 63)+"0"), 0, api.ErrMore)
	checkError(t, bytesOf(strings.Repeat("0f", 4)), 0, api.ErrMore)
	checkError(t, bytesOf("12"+"2"+"0f0f0f"+"0"), 0, api.ErrMore)
	checkGet(t, bytesOf("12"+"2"+"0f0f0f"+"0"+"d"), 0, at(0, 1, 2, 2), 6, api.OK)
}

// All lengths are there first: only then it is asked whether they are a Put's.
func TestGetOfWrongBytesThatEndTooEarly(t *testing.T) { // 10.1, R2
	for _, digits := range []string{"030b", "0000", "1111", "11", "1f", "ffff", "ff" + "0f0f0f", strings.Repeat("1", 64), strings.Repeat("00", 64)} {
		checkError(t, bytesOf(digits), 0, api.ErrMore)
	}
}

func TestGetOfARowInTwoParts(t *testing.T) { // 10.1
	for _, digits := range []string{
		"030b" + "0f0f0f00", "0f0f0f0e" + "0000", "0f0f0f000f", "000f0f0f0f", "0f0f0e0f01", "0f0e0f0f01",
		"0e0f0f0f01", "0b03" + "0f0f0f00", "0f0f0f0e01", "0f0f0f0700070000", strings.Repeat("00", 65),
		"1" + "00" + "0f0f0f0e", "1" + "0f0f0f0e00", "1" + "0e00" + "0f0f0f", "1" + "0f0e00" + "0f0f",
		"0f0f0f0e00" + "1", "000f0f0f0e" + "1", "122" + "0c00" + "0f0f0f", "122" + "0f0f0f0c00", "1" + "0000" + "1" + "0f0f0f0c",
		"11" + "0f0f0f0d00", "11" + "000f0f0f0d", "0000" + strings.Repeat("6", 63),
	} {
		checkError(t, bytesOf(digits), 0, api.ErrForm)
		checkError(t, "\x00"+bytesOf(digits)+"\x00\xff", 1, api.ErrForm)
	}
}

func TestGetOfARowBehindTheLastClass(t *testing.T) { // 10.1
	for _, last := range "123456789abcdef" {
		checkError(t, bytesOf("0f0f0f0f"+"0"+string(last)), 0, api.ErrForm)
		checkError(t, bytesOf(strings.Repeat("6", 64)+"0"+string(last)), 0, api.ErrForm)
	}
	checkError(t, bytesOf("1"+"0f0f0f0e"+"01"), 0, api.ErrForm)
	checkError(t, bytesOf("122"+"0f0f0f0e"), 0, api.ErrForm)
	checkError(t, bytesOf("122"+"0f0f0f0f"), 0, api.ErrForm)
	checkGet(t, bytesOf("122"+"0f0f0f0d"), 0, at(0, 1, 2, 2), 6, api.OK)
}

// Of an odd number of halves the last one is 0, else it is no Put.
func TestGetOfALastUpperHalf(t *testing.T) { // 10.1
	for _, l := range mixed(106) {
		s := lens.Put(l)
		odd := halvesOf(l)%2 == 1
		if odd && s[len(s)-1] > 15 {
			t.Errorf("Put(%d) ends with %d", l, s[len(s)-1])
		}
		for v := 1; v < 16 && odd; v++ {
			turned := s[:len(s)-1] + string([]byte{s[len(s)-1] | byte(v<<4)})
			checkError(t, turned, 0, api.ErrForm)
			checkError(t, "x"+turned+s, 1, api.ErrForm)
		}
	}
}

// halvesOf counts the halves of lengths: one each, and two for each row.
func halvesOf(l []int) int {
	many, row := 0, 0
	for _, n := range l {
		if n > 0 {
			many, row = many+1, 0
			continue
		}
		if row%16 == 0 {
			many += 2
		}
		row++
	}
	return many
}

func TestPutHasNoMoreBytesThanItNeeds(t *testing.T) { // 10.1
	for _, l := range mixed(107) {
		if got, want := len(lens.Put(l)), (halvesOf(l)+1)/2; got != want {
			t.Errorf("Put(%d) has %d bytes, want %d", l, got, want)
		}
	}
}

func TestGetOfLengthsThatMayNotBe(t *testing.T) { // 10.1
	for _, l := range [][]int{
		at(0, 2), at(64, 15), at(0, 1, 2), at(0, 2, 2), at(0, 1, 1, 1), at(0, 1, 1, 15), alike(65, 1), alike(65, 6), alike(65, 15),
		at(0, deep(15)[1:]...), at(7, deep(15)[:15]...), append(alike(64, 6), 6), append(alike(63, 6), 6, 7), at(1, alike(63, 6)...),
	} {
		checkError(t, expected(l), 0, api.ErrForm)
		checkError(t, expected(l)+"\x00\x00", 0, api.ErrForm)
		checkError(t, "ab"+expected(l), 2, api.ErrForm)
	}
}

// One half of a Put is turned to each other one.
func TestGetOfBytesWithAHalfThatIsTurned(t *testing.T) { // 10.1
	for n, l := range mixed(108) {
		if n > 20 && n%5 != 0 {
			continue
		}
		s := lens.Put(l)
		for i := range 2 * len(s) {
			for v := 1; v < 16; v++ {
				turned := []byte(s)
				turned[i/2] ^= byte(v) << (i % 2 * 4)
				want, next, e := expectedGet(string(turned), 0)
				checkGet(t, string(turned), 0, want, next, e)
			}
		}
	}
}

// Digits of chance, of few kinds, so that many have all lengths.
func TestGetOfBytesOfChance(t *testing.T) { // 10.1, R1
	next := chain(109)
	seen := map[api.Errno]int{}
	for i := range 20000 {
		kinds := []string{"0f", "0f0e", "0123456789abcdef", "06", "1f0", "0000f1"}[i%6]
		var d strings.Builder
		for range next(90) {
			d.WriteByte(kinds[next(len(kinds))])
		}
		s := bytesOf(d.String())
		place := next(len(s) + 1)
		want, behind, e := expectedGet(s, place)
		checkGet(t, s, place, want, behind, e)
		seen[e]++
	}
	if seen[api.ErrMore] < 100 || seen[api.ErrForm] < 100 {
		t.Error("of too few kinds:", seen)
	}
}

// Whatever Get takes, its Put stands there.
func TestPutOfGet(t *testing.T) { // 10.1, 10.2
	next := chain(110)
	found := 0
	for range 3000 {
		l := scattered(next, grown(next, 2+next(6)))
		s := []byte(lens.Put(l))
		s[next(len(s))] = "\x00\x0f\xf0\x11\x22\x12\x21\x10\x01"[next(9)]
		got, behind, e := lens.Get(string(s), 0)
		if e != api.OK {
			continue
		}
		found++
		if !canon.May(got) || lens.Put(got) != string(s[:behind]) {
			t.Errorf("Get(%q) = %d, %d", s, got, behind)
		}
	}
	if found < 100 {
		t.Error("only", found, "were a Put")
	}
}

// Of many bytes no more than those of the lengths are asked for.
func TestGetAmongManyBytes(t *testing.T) { // 10.1, R1
	s := strings.Repeat("\xf0", 1<<20) + lens.Put(at(9, deep(15)...)) + strings.Repeat("\xff", 1<<20)
	checkGet(t, s, 1<<20, at(9, deep(15)...), 1<<20+len(lens.Put(at(9, deep(15)...))), api.OK)
	checkError(t, s, 0, api.ErrForm)
	checkError(t, s, len(s), api.ErrMore)
	checkError(t, s, len(s)-1, api.ErrMore)
	checkError(t, s, len(s)-40, api.ErrForm)
}

func TestWhatIsHandedInStays(t *testing.T) { // R3
	for _, l := range append(mixed(111), at(0, 3, 1), at(64, -1), at(0, 16), alike(api.Classes, 1)) {
		room := append(slices.Clone(l), 7, 1, 2)
		was := slices.Clone(room)
		lens.Put(room[:api.Classes])
		lens.Put(room[:64])
		lens.Put(room[1:])
		if !slices.Equal(room, was) {
			t.Errorf("a call changed %d to %d", was, room)
		}
		s := expectedOrNone(l)
		kept := strings.Clone(s)
		lens.Get(s, 0)
		if s != kept {
			t.Errorf("a call changed %q to %q", kept, s)
		}
	}
}

func expectedOrNone(l []int) string {
	if !canon.May(l) {
		return "\xf0\xf0"
	}
	return expected(l)
}

// What lies behind a list's end is none of it: a row of noughts ends there.
func TestSpareRoomIsNotAsked(t *testing.T) { // R3
	for _, l := range mixed(112) {
		room := append(slices.Clone(l), alike(65, 0)...)
		if lens.Put(room[:api.Classes]) != expected(l) {
			t.Errorf("Put(%d) hangs on what lies behind", l)
		}
	}
}

// overwrite writes into all of l, its spare room too.
func overwrite(l []int, v int) {
	l = l[:cap(l)]
	for i := range l {
		l[i] = v
	}
}

func TestWhatIsToldIsNewMemory(t *testing.T) { // R3, R5
	for _, l := range mixed(113) {
		given := slices.Clone(l)
		s := lens.Put(given)
		overwrite(given, 99)
		if s != expected(l) || lens.Put(l) != s {
			t.Errorf("Put of %d hangs on memory of what it was given", l)
		}
		one, _, _ := lens.Get(s, 0)
		two, _, _ := lens.Get(s, 0)
		overwrite(one, 99)
		_ = append(one, 5)
		if !slices.Equal(two, l) {
			t.Errorf("Get of %q tells memory of another answer", s)
		}
		checkGet(t, s, 0, l, len(s), api.OK)
	}
}
