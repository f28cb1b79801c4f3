package vint_test

import (
	"math"
	"math/big"
	"strings"
	"testing"

	"wringer/api"
	"wringer/vint"
)

// put works Put out by dividing, in numbers that never wrap.
func put(n uint64) string {
	var b []byte
	left, digit := new(big.Int).SetUint64(n), new(big.Int)
	for {
		left.DivMod(left, big.NewInt(128), digit)
		if left.Sign() == 0 {
			return string(append(b, byte(digit.Int64())))
		}
		b = append(b, byte(digit.Int64())+128)
	}
}

// get works Get out of a whole text from its beginning on, as the document
// words it.
func get(s string) (uint64, int, api.Errno) {
	for i := range min(len(s), 10) {
		if s[i] >= 128 {
			continue
		}
		sum := new(big.Int)
		for k := i; k >= 0; k-- {
			sum.Mul(sum, big.NewInt(128))
			sum.Add(sum, big.NewInt(int64(s[k]%128)))
		}
		if !sum.IsUint64() || put(sum.Uint64()) != s[:i+1] {
			return 0, 0, api.ErrForm
		}
		return sum.Uint64(), i + 1, api.OK
	}
	if len(s) >= 10 {
		return 0, 0, api.ErrForm
	}
	return 0, 0, api.ErrMore
}

// numbers are ordinary ones, the powers of two (those of 128 and 256 among
// them) with their neighbours, and the greatest.
func numbers() []uint64 {
	l := []uint64{math.MaxUint64, math.MaxUint64 - 1, 0x0807060504030201, 0xf1e2d3c4b5a69788}
	for n := range uint64(20000) {
		l = append(l, n)
	}
	for i := range 64 {
		p := uint64(1) << i
		l = append(l, p-1, p, p+1)
	}
	for n := uint64(1); n < math.MaxUint64/7; n = n*7 + 3 {
		l = append(l, n)
	}
	return l
}

// surrounds are what may stand ahead of what is read, and behind it.
var surrounds = []string{"", "\x00", "\x80", "ab", "\xff\xff", strings.Repeat("\xff", 12)}

func checkGet(t *testing.T, s string, at int, n uint64, next int, e api.Errno) {
	t.Helper()
	gotN, gotNext, gotE := vint.Get(s, at)
	if gotN != n || gotNext != next || gotE != e {
		t.Errorf("Get(%q, %d) = %d, %d, %d, want %d, %d, %d", s, at, gotN, gotNext, gotE, n, next, e)
	}
}

func checkGetWord(t *testing.T, s string, at int, n uint64, next int, e api.Errno) {
	t.Helper()
	gotN, gotNext, gotE := vint.GetWord(s, at)
	if gotN != n || gotNext != next || gotE != e {
		t.Errorf("GetWord(%q, %d) = %d, %d, %d, want %d, %d, %d", s, at, gotN, gotNext, gotE, n, next, e)
	}
}

func TestPutOfKnownNumbers(t *testing.T) { // 2.1
	for _, c := range []struct {
		n uint64
		s string
	}{
		{0, "\x00"}, {1, "\x01"}, {127, "\x7f"}, {128, "\x80\x01"}, {129, "\x81\x01"}, {300, "\xac\x02"},
		{16383, "\xff\x7f"}, {16384, "\x80\x80\x01"}, {16385, "\x81\x80\x01"},
		{1<<63 - 1, strings.Repeat("\xff", 8) + "\x7f"},
		{1 << 63, strings.Repeat("\x80", 9) + "\x01"},
		{math.MaxUint64, strings.Repeat("\xff", 9) + "\x01"},
	} {
		if s := vint.Put(c.n); s != c.s {
			t.Errorf("Put(%d) = %q, want %q", c.n, s, c.s)
		}
		checkGet(t, c.s, 0, c.n, len(c.s), api.OK)
	}
}

func TestPutTellsSevenBitsAByte(t *testing.T) { // 2.1
	for _, n := range numbers() {
		if got, want := vint.Put(n), put(n); got != want {
			t.Errorf("Put(%d) = %q, want %q", n, got, want)
		}
	}
}

func TestPutTakesTheFewestBytes(t *testing.T) { // 2.1
	for i := 1; i < 10; i++ {
		p := uint64(1) << (7 * i)
		for _, c := range []struct {
			n    uint64
			size int
		}{{p - 1, i}, {p, i + 1}, {p + 1, i + 1}} {
			if s := vint.Put(c.n); len(s) != c.size {
				t.Errorf("Put(%d) has %d bytes, want %d", c.n, len(s), c.size)
			}
		}
	}
}

func TestGetInTheMidst(t *testing.T) { // 2.1
	for _, n := range numbers()[:4] {
		for _, ahead := range surrounds {
			for _, behind := range surrounds {
				s := put(n)
				checkGet(t, ahead+s+behind, len(ahead), n, len(ahead)+len(s), api.OK)
			}
		}
	}
}

func TestGetOfEveryShortText(t *testing.T) { // 2.1
	check := func(s string) {
		n, next, e := get(s)
		checkGet(t, s, 0, n, next, e)
	}
	check("")
	for a := range 256 {
		check(string([]byte{byte(a)}))
		for b := range 256 {
			check(string([]byte{byte(a), byte(b)}))
			check(string([]byte{byte(a) | 128, byte(b) | 128, byte(a)}))
		}
	}
}

func TestGetOfEveryLastByte(t *testing.T) { // 2.1
	for size := range 12 {
		for _, ahead := range []string{"\x80", "\x81", "\xff", "\xd5"} {
			for last := range 256 {
				s := strings.Repeat(ahead, size) + string([]byte{byte(last)})
				n, next, e := get(s)
				checkGet(t, s, 0, n, next, e)
			}
		}
	}
}

func TestGetOfNoPlace(t *testing.T) { // 2.1, R3
	for _, s := range []string{"", "\x05", "\x80", "\x80\x00", "abc", strings.Repeat("\xff", 12)} {
		for _, at := range []int{-1, -2, -len(s) - 1, math.MinInt, len(s) + 1, len(s) + 2, 1 << 40, math.MaxInt} {
			checkGet(t, s, at, 0, 0, api.ErrArg)
		}
	}
}

func TestGetOfTooFewBytes(t *testing.T) { // 2.1
	for _, ahead := range surrounds {
		checkGet(t, ahead, len(ahead), 0, 0, api.ErrMore)
		for size := range 10 {
			checkGet(t, ahead+strings.Repeat("\xff", size), len(ahead), 0, 0, api.ErrMore)
			checkGet(t, ahead+strings.Repeat("\x80", size), len(ahead), 0, 0, api.ErrMore)
		}
		for _, n := range numbers()[:4] {
			for k := range len(put(n)) {
				checkGet(t, ahead+put(n)[:k], len(ahead), 0, 0, api.ErrMore)
			}
		}
	}
}

func TestGetOfNoNumber(t *testing.T) { // 2.1
	r := strings.Repeat
	for _, wrong := range []string{
		"\x80\x00", "\x81\x00", "\xff\x00", "\xac\x82\x00", "\x80\x80\x00", r("\x80", 8) + "\x00", r("\x80", 9) + "\x00",
		r("\xff", 9) + "\x00", r("\x80", 9) + "\x02", r("\xff", 9) + "\x02", r("\xff", 9) + "\x03", r("\xff", 9) + "\x7f", r("\x80", 9) + "\x40",
		r("\xff", 10), r("\x80", 10), r("\x81", 10) + "\x01", r("\x80", 10) + "\x00", r("\xff", 11), r("\xff", 40),
	} {
		for _, ahead := range surrounds {
			checkGet(t, ahead+wrong, len(ahead), 0, 0, api.ErrForm)
			checkGet(t, ahead+wrong+"\x01", len(ahead), 0, 0, api.ErrForm)
		}
	}
}

func TestWordIsEightBytes(t *testing.T) { // 2.2
	if s := vint.Word(0x0807060504030201); s != "\x01\x02\x03\x04\x05\x06\x07\x08" {
		t.Errorf("Word = %q", s)
	}
	for _, n := range numbers() {
		s := vint.Word(n)
		if len(s) != 8 {
			t.Fatalf("Word(%d) has %d bytes", n, len(s))
		}
		sum := new(big.Int)
		for i := 7; i >= 0; i-- {
			sum.Mul(sum, big.NewInt(256))
			sum.Add(sum, big.NewInt(int64(s[i])))
		}
		if sum.Uint64() != n {
			t.Errorf("Word(%d) = %q, the bytes of %d", n, s, sum)
		}
	}
}

func TestGetWordInTheMidst(t *testing.T) { // 2.2
	for _, ahead := range surrounds {
		for _, behind := range surrounds {
			s := ahead + "\x01\x02\x03\x04\x05\x06\x07\x08" + behind
			checkGetWord(t, s, len(ahead), 0x0807060504030201, len(ahead)+8, api.OK)
		}
	}
	checkGetWord(t, strings.Repeat("\xff", 8), 0, math.MaxUint64, 8, api.OK)
	checkGetWord(t, strings.Repeat("\x00", 8), 0, 0, 8, api.OK)
	checkGetWord(t, "\x00\x00\x00\x00\x00\x00\x00\x80", 0, 1<<63, 8, api.OK)
	for _, n := range numbers() {
		checkGetWord(t, "x"+vint.Word(n)+"y", 1, n, 9, api.OK)
	}
}

func TestGetWordOfNoPlace(t *testing.T) { // 2.2, R3
	for _, s := range []string{"", "1234567", "12345678", "123456789012345678"} {
		for _, at := range []int{-1, -8, -len(s) - 1, math.MinInt, len(s) + 1, len(s) + 8, 1 << 40, math.MaxInt - 7, math.MaxInt} {
			checkGetWord(t, s, at, 0, 0, api.ErrArg)
		}
	}
}

func TestGetWordOfTooFewBytes(t *testing.T) { // 2.2
	for _, ahead := range surrounds {
		for size := range 8 {
			checkGetWord(t, ahead+"12345678"[:size], len(ahead), 0, 0, api.ErrMore)
		}
	}
	checkGetWord(t, "12345678", 1, 0, 0, api.ErrMore)
	checkGetWord(t, "12345678", 8, 0, 0, api.ErrMore)
}

func TestGetOfPutIsTheNumber(t *testing.T) { // 2.3
	for _, n := range numbers() {
		s := vint.Put(n)
		checkGet(t, s, 0, n, len(s), api.OK)
		checkGet(t, "\xff"+s+"\x80", 1, n, 1+len(s), api.OK)
	}
}
