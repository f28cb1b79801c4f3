package back_test

import (
	"math"
	"math/big"
	"slices"
	"strings"
	"testing"

	"wringer/api"
	"wringer/back"
	"wringer/bits"
)

// row is a row of bits as the document words it, one character a bit.
type row string

// then is the row with the lowest n bits of v behind it, worked out by halving
// in numbers that never wrap.
func (r row) then(v uint64, n int) row {
	var b strings.Builder
	b.WriteString(string(r))
	left, bit := new(big.Int).SetUint64(v), new(big.Int)
	for range min(max(n, 0), 64) {
		left.DivMod(left, big.NewInt(2), bit)
		b.WriteByte("01"[bit.Int64()])
	}
	return row(b.String())
}

func (r row) bytes() string {
	b := make([]byte, (len(r)+7)/8)
	for i := range r {
		if r[i] == '1' {
			b[i/8] += []byte{1, 2, 4, 8, 16, 32, 64, 128}[i%8]
		}
	}
	return string(b)
}

// number is that of the whole row, the bit that stands first the lowest.
func (r row) number() uint64 {
	sum := new(big.Int)
	for i := len(r) - 1; i >= 0; i-- {
		sum.Lsh(sum, 1)
		if r[i] == '1' {
			sum.Add(sum, big.NewInt(1))
		}
	}
	return sum.Uint64()
}

// rowOf is the row of what is to be got from s: the bits ahead of the last 1.
func rowOf(s string) row {
	r := row("")
	for i := range len(s) {
		r = r.then(uint64(s[i]), 8)
	}
	return r[:strings.LastIndex(string(r), "1")]
}

func rowOfAll(vals []uint64, lens []int) row {
	r := row("")
	for i := 0; i < len(vals) && i < len(lens); i++ {
		r = r.then(vals[i], lens[i])
	}
	return r
}

// chain tells numbers that hang on nothing but seed.
func chain(seed uint64) func() uint64 {
	return func() uint64 {
		seed = seed*6364136223846793005 + 1442695040888963407
		return seed ^ seed>>29
	}
}

var values = []uint64{
	0, 1, 2, 5, 0x80, 0x1a5, 0xffff, 1 << 31, 1 << 63, 1<<63 | 1, math.MaxUint64,
	math.MaxUint64 - 1, 0x0123456789abcdef, 0xaaaaaaaaaaaaaaaa, 0x5555555555555555,
}

func checkSeal(t *testing.T, vals []uint64, lens []int, want row) {
	t.Helper()
	if s := back.Seal(vals, lens); s != (want + "1").bytes() {
		t.Errorf("Seal(%#x, %d) = %q, want %q", vals, lens, s, (want + "1").bytes())
	}
}

func from(t *testing.T, s string) *back.Reader {
	t.Helper()
	r, e := back.From(s)
	if r == nil || e != api.OK {
		t.Fatalf("From(%q) tells %v, %d", s, r, e)
	}
	return r
}

// checkGet holds that Get tells this, and how many are left behind it.
func checkGet(t *testing.T, r *back.Reader, n int, want uint64, wantE api.Errno, left int) {
	t.Helper()
	if v, e := r.Get(n); v != want || e != wantE {
		t.Errorf("Get(%d) = %#x, %d, want %#x, %d", n, v, e, want, wantE)
	}
	if r.Left() != left || r.Left() != left {
		t.Errorf("behind Get(%d) are left %d, want %d", n, r.Left(), left)
	}
}

// checkTake is checkGet of the last n of all: it tells those ahead of them.
func checkTake(t *testing.T, r *back.Reader, n int, all row) row {
	t.Helper()
	at := len(all) - n
	checkGet(t, r, n, all[at:].number(), api.OK, at)
	return all[:at]
}

func TestSealOfNothing(t *testing.T) { // 4.1
	for _, c := range []struct {
		vals []uint64
		lens []int
	}{
		{nil, nil}, {[]uint64{}, []int{}}, {nil, []int{}}, {[]uint64{7, 9}, nil}, {[]uint64{7}, []int{}}, {nil, []int{3, 64}},
		{[]uint64{}, []int{8}}, {[]uint64{7}, []int{0}}, {[]uint64{7, 255}, []int{0, 0}},
	} {
		if s := back.Seal(c.vals, c.lens); s != "\x01" {
			t.Errorf("Seal(%d, %d) = %q", c.vals, c.lens, s)
		}
	}
}

func TestSealOfSome(t *testing.T) { // 4.1
	for _, c := range []struct {
		vals []uint64
		lens []int
		want string
	}{
		{[]uint64{5, 1}, []int{3, 2}, "\x2d"}, {[]uint64{1}, []int{1}, "\x03"}, {[]uint64{0}, []int{1}, "\x02"},
		{[]uint64{0x7f}, []int{7}, "\xff"}, {[]uint64{0}, []int{7}, "\x80"}, {[]uint64{0}, []int{8}, "\x00\x01"},
		{[]uint64{0xa5}, []int{8}, "\xa5\x01"}, {[]uint64{1, 2, 3}, []int{4, 4, 4}, "\x21\x13"},
		{[]uint64{0x0201}, []int{16}, "\x01\x02\x01"}, {[]uint64{0x1ff}, []int{9}, "\xff\x03"},
		{[]uint64{0x0807060504030201}, []int{64}, "\x01\x02\x03\x04\x05\x06\x07\x08\x01"},
	} {
		if s := back.Seal(c.vals, c.lens); s != c.want {
			t.Errorf("Seal(%#x, %d) = %q, want %q", c.vals, c.lens, s, c.want)
		}
	}
}

// As many as there are of both count; bits above the n-th are not put.
func TestSealOfListsOfOtherSizes(t *testing.T) { // 4.1
	vals, lens := []uint64{5, 0xff, 2, 9, 1 << 40}, []int{3, 6, 2, 4, 64}
	for v := range len(vals) + 1 {
		for n := range len(lens) + 1 {
			checkSeal(t, vals[:v], lens[:n], rowOfAll(vals[:v], lens[:n]))
		}
	}
	if s := back.Seal([]uint64{5, 7, 7}, []int{3}); s != "\x0d" {
		t.Errorf("more numbers than lengths: %q", s)
	}
	if s := back.Seal([]uint64{5}, []int{3, 9, 9}); s != "\x0d" {
		t.Errorf("more lengths than numbers: %q", s)
	}
}

// The mark comes at each place, and alone in a byte of its own where the
// numbers fill theirs.
func TestTheMarkStandsAtEachPlace(t *testing.T) { // 4.1, 4.2
	for n := range 65 {
		s := back.Seal([]uint64{0}, []int{n})
		if want := strings.Repeat("\x00", n/8) + string([]byte{1 << (n % 8)}); s != want {
			t.Errorf("%d bits of 0 are sealed as %q, want %q", n, s, want)
		}
		s = back.Seal([]uint64{math.MaxUint64}, []int{n})
		if want := strings.Repeat("\xff", n/8) + string([]byte{1<<(n%8+1) - 1}); s != want {
			t.Errorf("%d bits of 1 are sealed as %q, want %q", n, s, want)
		}
		if left := from(t, s).Left(); left != n {
			t.Errorf("of %d bits are left %d", n, left)
		}
	}
}

func TestSealOfAllLengthsAtAllPlaces(t *testing.T) { // 4.1
	for place := range 9 {
		for n := range 65 {
			for _, v := range values {
				want := row("").then(0x15a, place).then(v, n)
				checkSeal(t, []uint64{0x15a, v}, []int{place, n}, want)
				checkSeal(t, []uint64{0x15a, v, 0x2d}, []int{place, n, 6}, want.then(0x2d, 6))
			}
		}
	}
}

func TestSealOfTooFewOrTooManyBits(t *testing.T) { // 4.1
	for place := range 8 {
		for _, v := range values {
			ahead := row("").then(0xd3, place)
			for _, n := range []int{-1, -8, -64, math.MinInt32, math.MinInt} {
				checkSeal(t, []uint64{0xd3, v, 3}, []int{place, n, 2}, ahead.then(3, 2))
			}
			for _, n := range []int{65, 66, 72, 128, 1 << 40, math.MaxInt} {
				checkSeal(t, []uint64{0xd3, v, 3}, []int{place, n, 2}, ahead.then(v, 64).then(3, 2))
			}
		}
	}
}

func TestSealIsBytesOfAWriter(t *testing.T) { // 4.1
	next := chain(41)
	for range 200 {
		var vals []uint64
		var lens []int
		w := bits.New()
		for range next() >> 33 % 40 {
			v, n := next(), int(next()>>33%70)-2
			vals, lens = append(vals, v), append(lens, n)
			w.Put(v, n)
		}
		w.Put(1, 1)
		if s := back.Seal(vals, lens); s != w.Bytes() {
			t.Errorf("Seal(%#x, %d) = %q, a writer tells %q", vals, lens, s, w.Bytes())
		}
	}
}

func TestSealLeavesItsLists(t *testing.T) { // 4.1, R3
	vals, lens := slices.Clone(values), []int{-3, 0, 1, 7, 8, 9, 63, 64, 65, math.MaxInt, 3, 5, 12, 31, 2, 6}
	lensWere := slices.Clone(lens)
	s := back.Seal(vals, lens)
	if !slices.Equal(vals, values) || !slices.Equal(lens, lensWere) {
		t.Error("Seal changed its lists", vals, lens)
	}
	was := strings.Clone(s)
	clear(vals)
	clear(lens)
	back.Seal(vals, lens)
	if s != was || back.Seal(values, lensWere) != was {
		t.Errorf("what was told became %q, was %q", s, was)
	}
}

func TestFromOfWhatHasNoMark(t *testing.T) { // 4.2, R4
	for _, s := range []string{
		"", "\x00", "\x00\x00", "\x05\x00", "\xff\x00", "\xff\xff\xff\x00", "\x01\x00\x00", strings.Repeat("\xff", 100) + "\x00",
		strings.Repeat("\x00", 100),
	} {
		if r, e := back.From(s); r != nil || e != api.ErrForm {
			t.Errorf("From(%q) tells %v, %d", s, r, e)
		}
	}
}

func TestFromOfTheMarkAlone(t *testing.T) { // 4.2
	r := from(t, "\x01")
	if r.Left() != 0 {
		t.Error("Left:", r.Left())
	}
	checkGet(t, r, 0, 0, api.OK, 0)
	checkGet(t, r, 1, 0, api.ErrMore, 0)
	checkGet(t, r, 64, 0, api.ErrMore, 0)
}

// Every last byte, behind other bytes or none: the last 1 is no more than the
// mark, whichever bits stand ahead of it.
func TestFromOfEveryLastByte(t *testing.T) { // 4.2
	for _, ahead := range []string{"", "\x00", "\xff", "\x01\x80", "\x00\x00\x00"} {
		for c := 1; c < 256; c++ {
			s := ahead + string([]byte{byte(c)})
			all := rowOf(s)
			r := from(t, s)
			if r.Left() != len(all) {
				t.Errorf("Left of %q is %d, want %d", s, r.Left(), len(all))
			}
			for len(all) > 0 {
				all = checkTake(t, r, 1, all)
			}
			checkGet(t, r, 1, 0, api.ErrMore, 0)
		}
	}
}

// The example's bits, 5 in three and 1 in two: the last ones come first, and
// within them the one that stands first is the lowest.
func TestGetOfSome(t *testing.T) { // 4.2
	r := from(t, "\x2d")
	if r.Left() != 5 {
		t.Error("Left:", r.Left())
	}
	checkGet(t, r, 2, 1, api.OK, 3)
	checkGet(t, r, 3, 5, api.OK, 0)
	checkGet(t, from(t, "\x2d"), 5, 13, api.OK, 0)
	checkGet(t, from(t, "\x21\x13"), 12, 0x321, api.OK, 0)
	r = from(t, "\x21\x13")
	checkGet(t, r, 4, 3, api.OK, 8)
	checkGet(t, r, 8, 0x21, api.OK, 0)
	r = from(t, "\x01\x02\x01")
	checkGet(t, r, 10, 8, api.OK, 6)
	checkGet(t, r, 6, 1, api.OK, 0)
}

func TestGetOfAllLengthsAtAllPlaces(t *testing.T) { // 4.2
	for mark := range 8 {
		s := "\x5a\xa5\x13\xff\x00\x80\x01\x7f\xfe\x3c\xc3\x9d" + string([]byte{1<<mark | 0x55&(1<<mark-1)})
		for place := range 17 {
			for n := range 65 {
				r, all := from(t, s), rowOf(s)
				all = checkTake(t, r, place, all)
				all = checkTake(t, r, n, all)
				checkTake(t, r, 5, all)
			}
		}
	}
}

func TestGetOfSixtyFourBits(t *testing.T) { // 4.2
	checkGet(t, from(t, "\x01\x02\x03\x04\x05\x06\x07\x08\x01"), 64, 0x0807060504030201, api.OK, 0)
	for place := range 8 {
		for behind := range 9 {
			for _, v := range values {
				r := from(t, back.Seal([]uint64{0x4b, v, 0x96}, []int{place, 64, behind}))
				checkGet(t, r, behind, row("").then(0x96, behind).number(), api.OK, place+64)
				checkGet(t, r, 64, v, api.OK, place)
				checkGet(t, r, place, row("").then(0x4b, place).number(), api.OK, 0)
				checkGet(t, r, 1, 0, api.ErrMore, 0)
			}
		}
	}
}

func TestGetOfNoBits(t *testing.T) { // 4.2
	for _, s := range []string{"\x01", "\xff", "\xff\x01", "\xff\xff\x03"} {
		r, all := from(t, s), rowOf(s)
		for len(all) > 0 {
			checkGet(t, r, 0, 0, api.OK, len(all))
			all = checkTake(t, r, 1, all)
		}
		checkGet(t, r, 0, 0, api.OK, 0)
		checkGet(t, r, 1, 0, api.ErrMore, 0)
		checkGet(t, r, 0, 0, api.OK, 0)
	}
}

// ErrArg is named first: it counts where fewer are left too, and takes nothing.
func TestGetOfNoLength(t *testing.T) { // 4.2, R2
	for _, s := range []string{"\x01", "\xa7", "\xff\x01", "0123456789abcdef"} {
		for take := range min(len(rowOf(s)), 64) + 1 {
			r := from(t, s)
			all := checkTake(t, r, take, rowOf(s))
			for _, n := range []int{-1, -8, -64, math.MinInt, 65, 66, 1 << 40, math.MaxInt} {
				checkGet(t, r, n, 0, api.ErrArg, len(all))
			}
			checkTake(t, r, min(len(all), 64), all)
		}
	}
}

func TestGetOfMoreThanThereIs(t *testing.T) { // 4.2
	for size := 1; size < 10; size++ {
		s := "\xb7\x6c\x01\xff\x80\x5a\xa5\x3e\x19"[:size]
		for take := range min(len(rowOf(s)), 64) + 1 {
			r := from(t, s)
			all := checkTake(t, r, take, rowOf(s))
			for n := len(all) + 1; n <= 64; n++ {
				checkGet(t, r, n, 0, api.ErrMore, len(all))
			}
			if len(all) <= 64 {
				checkTake(t, r, len(all), all)
			}
		}
	}
}

func TestTheMethodsOfNoReader(t *testing.T) { // 4.2
	var r *back.Reader
	for _, n := range []int{math.MinInt, -1, 0, 1, 64, 65, math.MaxInt} {
		checkGet(t, r, n, 0, api.ErrNone, 0)
	}
}

// A reader that From did not make has nothing left; none of its calls panics.
func TestAReaderOfNothing(t *testing.T) { // 4.2, R1
	var r back.Reader
	checkGet(t, &r, 0, 0, api.OK, 0)
	checkGet(t, &r, 1, 0, api.ErrMore, 0)
	checkGet(t, &r, 65, 0, api.ErrArg, 0)
}

func TestTwoReadersDoNotTouch(t *testing.T) { // 4.2, R5
	s := "0123456789"
	a, b := from(t, s), from(t, s)
	allA, allB := rowOf(s), rowOf(s)
	for i := range 11 {
		allA = checkTake(t, a, i, allA)
	}
	allB = checkTake(t, b, 64, allB)
	allA = checkTake(t, a, 9, allA)
	checkTake(t, b, len(allB), allB)
	checkGet(t, b, 1, 0, api.ErrMore, 0)
	checkTake(t, a, 1, allA)
}

func TestWhatWasSealedIsGot(t *testing.T) { // 4.3
	for seed := range uint64(50) {
		next := chain(seed)
		var vals []uint64
		var lens []int
		left := 0
		for range next() >> 33 % 300 {
			v, n := next(), int(next()>>40%65)
			vals, lens = append(vals, v), append(lens, n)
			left += n
		}
		r := from(t, back.Seal(vals, lens))
		if r.Left() != left {
			t.Errorf("Left is %d, want %d", r.Left(), left)
		}
		for i := len(vals) - 1; i >= 0; i-- {
			left -= lens[i]
			checkGet(t, r, lens[i], row("").then(vals[i], lens[i]).number(), api.OK, left)
		}
		checkGet(t, r, 1, 0, api.ErrMore, 0)
	}
}

// What was sealed in some lengths is got in others, as one row.
func TestWhatWasSealedIsGotInOtherLengths(t *testing.T) { // 4.3
	next := chain(77)
	var vals []uint64
	var lens []int
	for range 100 {
		vals, lens = append(vals, next()), append(lens, int(next()>>40%65))
	}
	s := back.Seal(vals, lens)
	for size := 1; size <= 64; size++ {
		r, all := from(t, s), rowOfAll(vals, lens)
		for len(all) >= size {
			all = checkTake(t, r, size, all)
		}
		checkTake(t, r, len(all), all)
	}
}
