package bits_test

import (
	"math"
	"math/big"
	"strings"
	"testing"

	"wringer/api"
	"wringer/bits"
)

// row is a row of bits as the document words it, one character a bit.
type row string

// then is the row with the lowest n bits of v behind it, worked out by halving
// in numbers that never wrap.
func (r row) then(v uint64, n int) row {
	var b strings.Builder
	b.WriteString(string(r))
	left, bit := new(big.Int).SetUint64(v), new(big.Int)
	for range min(max(n, 0), 64) {
		left.DivMod(left, big.NewInt(2), bit)
		b.WriteByte("01"[bit.Int64()])
	}
	return row(b.String())
}

func (r row) bytes() string {
	b := make([]byte, (len(r)+7)/8)
	for i := range r {
		if r[i] == '1' {
			b[i/8] += []byte{1, 2, 4, 8, 16, 32, 64, 128}[i%8]
		}
	}
	return string(b)
}

// number is that of n bits from the place at, the lowest first.
func (r row) number(at, n int) uint64 {
	sum := new(big.Int)
	for i := at + n - 1; i >= at; i-- {
		sum.Lsh(sum, 1)
		if r[i] == '1' {
			sum.Add(sum, big.NewInt(1))
		}
	}
	return sum.Uint64()
}

// rowOf is the row of the bits of s.
func rowOf(s string) row {
	r := row("")
	for i := range len(s) {
		r = r.then(uint64(s[i]), 8)
	}
	return r
}

// chain tells numbers that hang on nothing but seed.
func chain(seed uint64) func() uint64 {
	return func() uint64 {
		seed = seed*6364136223846793005 + 1442695040888963407
		return seed ^ seed>>29
	}
}

var values = []uint64{
	0, 1, 2, 5, 0x80, 0x1a5, 0xffff, 1 << 31, 1 << 63, 1<<63 | 1, math.MaxUint64,
	math.MaxUint64 - 1, 0x0123456789abcdef, 0xaaaaaaaaaaaaaaaa, 0x5555555555555555,
}

func checkWriter(t *testing.T, w *bits.Writer, want row) {
	t.Helper()
	if w.Len() != len(want) || w.Bytes() != want.bytes() {
		t.Errorf("the row %s is told as %d bits %q, want %d bits %q", want, w.Len(), w.Bytes(), len(want), want.bytes())
	}
}

func checkGet(t *testing.T, r *bits.Reader, n int, want uint64, wantE api.Errno) {
	t.Helper()
	if v, e := r.Get(n); v != want || e != wantE {
		t.Errorf("Get(%d) = %#x, %d, want %#x, %d", n, v, e, want, wantE)
	}
}

func TestANewWriterHasNoBits(t *testing.T) { // 3.1
	checkWriter(t, bits.New(), "")
	w := bits.New()
	for _, n := range []int{0, -1, 0, math.MinInt} {
		w.Put(math.MaxUint64, n)
		checkWriter(t, w, "")
	}
}

func TestTheExample(t *testing.T) { // 3.1
	w := bits.New()
	w.Put(5, 3)
	w.Put(1, 2)
	if w.Len() != 5 || w.Bytes() != "\x0d" {
		t.Errorf("%d bits %q", w.Len(), w.Bytes())
	}
}

func TestTheLowestBitComesFirst(t *testing.T) { // 3.1
	for _, c := range []struct {
		v    uint64
		n    int
		want string
	}{
		{1, 1, "\x01"}, {0, 1, "\x00"}, {2, 2, "\x02"}, {0x80, 8, "\x80"}, {0x1ff, 9, "\xff\x01"}, {0x100, 9, "\x00\x01"},
		{0x0201, 16, "\x01\x02"}, {0x0807060504030201, 64, "\x01\x02\x03\x04\x05\x06\x07\x08"},
		{1 << 63, 64, "\x00\x00\x00\x00\x00\x00\x00\x80"}, {1 << 62, 63, "\x00\x00\x00\x00\x00\x00\x00\x40"},
	} {
		w := bits.New()
		w.Put(c.v, c.n)
		if w.Len() != c.n || w.Bytes() != c.want {
			t.Errorf("Put(%#x, %d): %d bits %q, want %q", c.v, c.n, w.Len(), w.Bytes(), c.want)
		}
	}
}

// Bits of v above the n-th are not put: most of the values have such.
func TestPutOfAllLengthsAtAllPlaces(t *testing.T) { // 3.1
	for place := range 17 {
		for n := range 65 {
			for _, v := range values {
				w := bits.New()
				w.Put(0x15a5a, place)
				w.Put(v, n)
				want := row("").then(0x15a5a, place).then(v, n)
				checkWriter(t, w, want)
				w.Put(0x2d, 6)
				checkWriter(t, w, want.then(0x2d, 6))
			}
		}
	}
}

func TestBitsAboveAreNotPut(t *testing.T) { // 3.1
	for place := range 8 {
		for n := range 64 {
			w := bits.New()
			w.Put(0, place)
			w.Put(math.MaxUint64<<n, n)
			w.Put(0, 9)
			checkWriter(t, w, row(strings.Repeat("0", place+n+9)))
		}
	}
}

func TestPutOfTooFewOrTooManyBits(t *testing.T) { // 3.1
	for place := range 8 {
		for _, v := range values {
			ahead := row("").then(0xd3, place)
			for _, n := range []int{-1, -8, -64, math.MinInt32, math.MinInt} {
				w := bits.New()
				w.Put(0xd3, place)
				w.Put(v, n)
				checkWriter(t, w, ahead)
			}
			for _, n := range []int{65, 66, 72, 128, 1 << 40, math.MaxInt} {
				w := bits.New()
				w.Put(0xd3, place)
				w.Put(v, n)
				checkWriter(t, w, ahead.then(v, 64))
			}
		}
	}
}

func TestBytesBetweenPuts(t *testing.T) { // 3.1, R3
	w, want := bits.New(), row("")
	next := chain(31)
	type told struct{ got, want string }
	var all []told
	for range 400 {
		v, n := next(), int(next()%67)-1
		w.Put(v, n)
		want = want.then(v, n)
		checkWriter(t, w, want)
		all = append(all, told{w.Bytes(), want.bytes()})
	}
	for _, c := range all {
		if c.got != c.want {
			t.Fatalf("what was told became %q, was %q", c.got, c.want)
		}
	}
}

func TestTwoWritersDoNotTouch(t *testing.T) { // 3.1, R5
	a, b := bits.New(), bits.New()
	wantA, wantB := row(""), row("")
	for i := range 200 {
		a.Put(values[i%len(values)], i%65)
		wantA = wantA.then(values[i%len(values)], i%65)
		b.Put(values[i%7], i%13)
		wantB = wantB.then(values[i%7], i%13)
		checkWriter(t, a, wantA)
		checkWriter(t, b, wantB)
	}
}

func TestTheMethodsOfNoWriter(t *testing.T) { // 3.1, 3.2
	var w *bits.Writer
	for _, n := range []int{-1, 0, 1, 64, 65} {
		w.Put(math.MaxUint64, n)
		if w.Len() != 0 || w.Bytes() != "" {
			t.Errorf("of nil: %d bits %q", w.Len(), w.Bytes())
		}
	}
}

func TestGetOfAllLengthsAtAllPlaces(t *testing.T) { // 3.2
	s := "\x5a\xa5\x13\xff\x00\x80\x01\x7f\xfe\x3c\xc3\x9d"
	all := rowOf(s)
	for place := range 17 {
		for n := range 65 {
			r := bits.From(s)
			checkGet(t, r, place, all.number(0, place), api.OK)
			checkGet(t, r, n, all.number(place, n), api.OK)
			checkGet(t, r, 5, all.number(place+n, 5), api.OK)
		}
	}
}

func TestGetBitByBit(t *testing.T) { // 3.2
	s := "\x01\x80\xf0\x6d"
	r := bits.From(s)
	for i, c := range rowOf(s) {
		if v, e := r.Get(1); v != uint64(c-'0') || e != api.OK {
			t.Errorf("bit %d is %d, %d, want %c", i, v, e, c)
		}
	}
	checkGet(t, r, 1, 0, api.ErrMore)
}

func TestGetOfSixtyFourBits(t *testing.T) { // 3.2
	checkGet(t, bits.From("\x01\x02\x03\x04\x05\x06\x07\x08"), 64, 0x0807060504030201, api.OK)
	for place := range 8 {
		r := bits.From(strings.Repeat("\xff", 9))
		checkGet(t, r, place, 1<<place-1, api.OK)
		checkGet(t, r, 64, math.MaxUint64, api.OK)
		checkGet(t, r, 8-place, 1<<(8-place)-1, api.OK)
		checkGet(t, r, 1, 0, api.ErrMore)
	}
}

func TestGetOfNoBits(t *testing.T) { // 3.2
	for _, s := range []string{"", "\xff", "\xff\xff"} {
		r := bits.From(s)
		for range 8 * len(s) {
			checkGet(t, r, 0, 0, api.OK)
			checkGet(t, r, 1, 1, api.OK)
		}
		checkGet(t, r, 0, 0, api.OK)
		checkGet(t, r, 1, 0, api.ErrMore)
		checkGet(t, r, 0, 0, api.OK)
	}
}

// ErrArg is named first: it counts where fewer are left too, and takes nothing.
func TestGetOfNoLength(t *testing.T) { // 3.2, R2
	for _, s := range []string{"", "\xa7", "0123456789abcdef"} {
		all := rowOf(s)
		for take := range min(len(all), 64) + 1 {
			r := bits.From(s)
			r.Get(take)
			for _, n := range []int{-1, -8, math.MinInt, 65, 66, 1 << 40, math.MaxInt} {
				checkGet(t, r, n, 0, api.ErrArg)
			}
			left := min(len(all)-take, 64)
			checkGet(t, r, left, all.number(take, left), api.OK)
		}
	}
}

func TestGetOfMoreThanThereIs(t *testing.T) { // 3.2
	for size := range 9 {
		s := "\xb7\x6c\x01\xff\x80\x5a\xa5\x3e\x99"[:size]
		all := rowOf(s)
		for take := range min(len(all), 64) + 1 {
			r := bits.From(s)
			checkGet(t, r, take, all.number(0, take), api.OK)
			left := len(all) - take
			for n := left + 1; n <= 64; n++ {
				checkGet(t, r, n, 0, api.ErrMore)
			}
			if left <= 64 {
				checkGet(t, r, left, all.number(take, left), api.OK)
			}
		}
	}
}

// All last bytes with all numbers of bits left, behind one byte more or none.
func TestRestOfEveryByte(t *testing.T) { // 3.2
	for _, ahead := range []string{"", "\x00", "\xff"} {
		for c := range 256 {
			s := ahead + string([]byte{byte(c)})
			all := rowOf(s)
			for take := range len(all) + 1 {
				r := bits.From(s)
				r.Get(take)
				left := string(all[take:])
				want := len(left) < 8 && !strings.Contains(left, "1")
				if r.Rest() != want || r.Rest() != want {
					t.Errorf("Rest behind %d of %q is not %v", take, s, want)
				}
				checkGet(t, r, len(left), all.number(take, len(left)), api.OK)
			}
		}
	}
}

func TestRestOfManyBits(t *testing.T) { // 3.2
	for size := 2; size < 12; size++ {
		r := bits.From(strings.Repeat("\x00", size))
		for left := 8 * size; left >= 0; left-- {
			if r.Rest() != (left < 8) {
				t.Errorf("Rest of %d bits 0 is %v", left, r.Rest())
			}
			r.Get(1)
		}
	}
	if !bits.From("").Rest() {
		t.Error("Rest of nothing is false")
	}
}

func TestTheMethodsOfNoReader(t *testing.T) { // 3.2
	var r *bits.Reader
	for _, n := range []int{math.MinInt, -1, 0, 1, 64, 65, math.MaxInt} {
		checkGet(t, r, n, 0, api.ErrNone)
	}
	if r.Rest() {
		t.Error("Rest of nil is true")
	}
}

func TestTwoReadersDoNotTouch(t *testing.T) { // 3.2, R5
	s := "0123456789"
	all := rowOf(s)
	a, b := bits.From(s), bits.From(s)
	at := 0
	for i := range 11 {
		checkGet(t, a, i, all.number(at, i), api.OK)
		at += i
	}
	checkGet(t, b, 64, all.number(0, 64), api.OK)
	checkGet(t, a, 9, all.number(at, 9), api.OK)
	checkGet(t, b, 16, all.number(64, 16), api.OK)
	checkGet(t, b, 1, 0, api.ErrMore)
	checkGet(t, a, 1, all.number(at+9, 1), api.OK)
}

func TestWhatWasPutIsGot(t *testing.T) { // 3.3
	for seed := range uint64(50) {
		next := chain(seed)
		w := bits.New()
		var vals []uint64
		var lens []int
		for range next() % 300 {
			v, n := next(), int(next()>>40%65)
			vals, lens = append(vals, v), append(lens, n)
			w.Put(v, n)
		}
		r := bits.From(w.Bytes())
		for i, n := range lens {
			checkGet(t, r, n, row("").then(vals[i], n).number(0, n), api.OK)
		}
		if !r.Rest() {
			t.Error("something is left behind what was put")
		}
		checkGet(t, r, 8, 0, api.ErrMore)
	}
}

// What was put in some lengths is got in others, as one row.
func TestWhatWasPutIsGotInOtherLengths(t *testing.T) { // 3.3
	next := chain(77)
	w, all := bits.New(), row("")
	for range 300 {
		v, n := next(), int(next()>>40%65)
		w.Put(v, n)
		all = all.then(v, n)
	}
	for size := 1; size <= 64; size++ {
		r := bits.From(w.Bytes())
		at := 0
		for ; at+size <= len(all); at += size {
			checkGet(t, r, size, all.number(at, size), api.OK)
		}
		checkGet(t, r, len(all)-at, all.number(at, len(all)-at), api.OK)
		if !r.Rest() {
			t.Error("something is left behind what was put")
		}
	}
}
