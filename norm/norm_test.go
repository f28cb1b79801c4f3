package norm_test

import (
	"encoding/binary"
	"math"
	"math/big"
	"slices"
	"strings"
	"testing"

	"wringer/api"
	"wringer/hist"
	"wringer/norm"
	"wringer/vint"
)

// at tells Classes numbers: those of l from a place on, else 0.
func at(from int, l ...int) []int {
	out := make([]int, api.Classes)
	copy(out[from:], l)
	return out
}

// alike tells n numbers that are all v.
func alike(n, v int) []int { return slices.Repeat([]int{v}, n) }

// with tells l with v at a place.
func with(l []int, place, v int) []int {
	l = slices.Clone(l)
	l[place] = v
	return l
}

// chain tells numbers that hang on nothing but seed.
func chain(seed uint64) func(below int) int {
	return func(below int) int {
		seed = seed*6364136223846793005 + 1442695040888963407
		return int(seed >> 20 % uint64(below))
	}
}

// logs are all that there are.
func logs() []int {
	var l []int
	for log := api.LeastLog; log <= api.MostLog; log++ {
		l = append(l, log)
	}
	return l
}

// noLogs are some of those that there are not.
var noLogs = []int{api.LeastLog - 1, api.MostLog + 1, 0, 1, -1, -7, 16, 63, 64, 65, 1<<32 + 7, math.MinInt, math.MinInt + 7, math.MaxInt}

func total(l []int) int {
	all := 0
	for _, n := range l {
		all += n
	}
	return all
}

// least tells in fractions each one's share without the rest, but at least 1.
func least(freq []int, log int) []int {
	l, all := at(0), int64(total(freq))
	for i, n := range freq {
		share := new(big.Rat).Mul(big.NewRat(int64(n), all), big.NewRat(1<<log, 1))
		l[i] = int(new(big.Int).Quo(share.Num(), share.Denom()).Int64())
		if n > 0 && l[i] == 0 {
			l[i] = 1
		}
	}
	return l
}

// shared works Of out as the document words it: for each one that is too much
// all numbers are gone through again.
func shared(freq []int, log int) []int {
	l := least(freq, log)
	left := 1<<log - total(l)
	for ; left < 0; left++ {
		l[slices.Index(l, slices.Max(l))]--
	}
	l[slices.Index(freq, slices.Max(freq))] += left
	return l
}

// frequencies are those of all kinds: of few classes, of all, alike, rare,
// common, each from another place on.
func frequencies(seed uint64) [][]int {
	lists := [][]int{
		at(0, 1), at(64, api.MaxBits), at(30, 7), alike(65, 1), alike(65, 1000), alike(65, api.MaxBits),
		with(alike(65, 1), 0, api.MaxBits), with(alike(65, 1), 64, api.MaxBits), with(alike(65, api.MaxBits), 33, 1),
		with(with(alike(65, 1), 5, 500), 60, 500), at(0, append(alike(32, api.MaxBits), alike(33, 1)...)...),
	}
	next := chain(seed)
	for range 600 {
		freq, most := at(0), []int{2, 3, 10, 1000, 4096, 1 << 20, api.MaxBits + 1}[next(7)]
		for range 1 + next(90) {
			freq[next(len(freq))] = next(most)
		}
		freq[next(len(freq))] = 1 + next(most-1)
		lists = append(lists, freq)
	}
	for range 200 {
		freq := alike(65, 1)
		for range 1 + next(6) {
			freq[next(len(freq))] = 200 << next(16)
		}
		lists = append(lists, freq)
	}
	return lists
}

func checkOf(t *testing.T, freq []int, log int, want []int) {
	t.Helper()
	l, e := norm.Of(freq, log)
	if e != api.OK || !slices.Equal(l, want) {
		t.Errorf("Of(%d, %d) = %d, %d, want %d", freq, log, l, e, want)
	}
}

func checkNotOf(t *testing.T, freq []int, log int) {
	t.Helper()
	if l, e := norm.Of(freq, log); e != api.ErrArg || l != nil {
		t.Errorf("Of(%d, %d) = %d, %d, want ErrArg", freq, log, l, e)
	}
}

func TestOfOneClassAlone(t *testing.T) { // 12.1
	checkOf(t, at(0, 5), 7, at(0, 128))
	for _, log := range logs() {
		for class := range api.Classes {
			for _, n := range []int{1, 2, 127, 1000, api.MaxBits} {
				checkOf(t, at(class, n), log, at(class, 1<<log))
			}
		}
	}
}

func TestOfWhatHasNoRest(t *testing.T) { // 12.1
	checkOf(t, at(0, 1, 1), 7, at(0, 64, 64))
	checkOf(t, at(0, 1, 2, 1), 7, at(0, 32, 64, 32))
	checkOf(t, at(0, 3, 0, 1), 7, at(0, 96, 0, 32))
	checkOf(t, at(60, 1000, 0, 0, 0, 7000), 8, at(60, 32, 0, 0, 0, 224))
	checkOf(t, at(0, 1, 127), 7, at(0, 1, 127))
	checkOf(t, at(0, 1, 4095), 12, at(0, 1, 4095))
}

// By hand: what each one's share is, and what lacks.
func TestOfWhatLeavesARest(t *testing.T) { // 12.1
	// 109.7 and 146.3: 1 lacks.
	checkOf(t, at(1, 3, 4), 8, at(1, 109, 147))
	// 42.7 each: 2 lack, to the least class of three alike.
	checkOf(t, at(0, 1, 1, 1), 7, at(0, 44, 42, 42))
	checkOf(t, at(62, 9, 9, 9), 7, at(62, 44, 42, 42))
	// 18.3 each: 2 lack.
	checkOf(t, at(10, alike(7, 5)...), 7, at(10, 20, 18, 18, 18, 18, 18, 18))
	// 51.2, 25.6, 51.2: 1 lacks.
	checkOf(t, at(0, 2, 1, 2), 7, at(0, 52, 25, 51))
	// 28.4, 71.1, 14.2, 14.2: 1 lacks.
	checkOf(t, at(3, 2, 5, 1, 1), 7, at(3, 28, 72, 14, 14))
	// 384.3, 0.4, 3711.3: 0.4 becomes 1, and 0 lacks.
	checkOf(t, at(0, 1000, 1, 9657), 12, at(0, 384, 1, 3711))
	// 682.7 each: 4 lack.
	checkOf(t, at(0, alike(6, 3)...), 12, at(0, 686, 682, 682, 682, 682, 682))
}

// What lacks goes by freq, not by the shares: of these, which are alike, the one
// behind is the more frequent.
func TestOfWhatLacksGoesToTheFirstOfOrder(t *testing.T) { // 12.1
	// 42.5, 43.0 (less than 43), 42.5.
	checkOf(t, at(0, 100, 101, 100), 7, at(0, 42, 44, 42))
	checkOf(t, at(0, 100, 100, 101), 7, at(0, 42, 42, 44))
	checkOf(t, at(0, 101, 100, 101), 7, at(0, 44, 42, 42))
	checkOf(t, at(0, 100, 101, 101), 7, at(0, 42, 44, 42))
	for _, freq := range frequencies(121) {
		for _, log := range logs() {
			want := least(freq, log)
			if lack := 1<<log - total(want); lack > 0 {
				want[hist.Order(freq)[0]] += lack
				checkOf(t, freq, log, want)
			}
		}
	}
}

// A class so rare that its share is less than 1 yet gets 1.
func TestOfIsAtLeastOne(t *testing.T) { // 12.1
	checkOf(t, at(0, api.MaxBits, 1), 12, at(0, 4095, 1))
	checkOf(t, at(0, 1, api.MaxBits), 7, at(0, 1, 127))
	checkOf(t, at(0, 1, api.MaxBits, 1), 7, at(0, 1, 126, 1))
	checkOf(t, at(50, 1, api.MaxBits, 1, 0, 1), 9, at(50, 1, 509, 1, 0, 1))
	for _, log := range logs() {
		for class := range api.Classes {
			want := with(alike(65, 1), class, 1<<log-64)
			checkOf(t, with(alike(65, 1), class, api.MaxBits), log, want)
		}
	}
}

// By hand: what all have together, of which the greatest are lessened in turn.
func TestOfWhatIsTooMuch(t *testing.T) { // 12.1
	rare := alike(65, 1)
	// 62.0 of each of two, and 63: 59 too much, 30 of them from the first.
	two := with(with(rare, 0, 1000), 1, 1000)
	checkOf(t, two, 7, with(with(rare, 0, 32), 1, 33))
	two = with(with(rare, 20, 1000), 64, 1000)
	checkOf(t, two, 7, with(with(rare, 20, 32), 64, 33))
	// It goes by the numbers, not by how often: 62.0 and 62.1 are alike.
	two = with(with(rare, 20, 1000), 64, 1001)
	checkOf(t, two, 7, with(with(rare, 20, 32), 64, 33))
	two = with(with(rare, 20, 1001), 64, 1000)
	checkOf(t, two, 7, with(with(rare, 20, 32), 64, 33))
	// So it does where 1 alone is too much: 63.9, 63.9 and 3.
	checkOf(t, at(0, 1000, 1001, 1, 1, 1), 7, at(0, 62, 63, 1, 1, 1))
	checkOf(t, at(9, 1, 1, 1001, 1, 1000), 7, at(9, 1, 1, 62, 1, 63))
	// 82.7 and 41.3 and 63: 58 too much, 41 from the greater until they are
	// alike, then 9 and 8.
	two = with(with(rare, 3, 2000), 9, 1000)
	checkOf(t, two, 7, with(with(rare, 3, 32), 9, 33))
	two = with(with(rare, 3, 1000), 9, 2000)
	checkOf(t, two, 7, with(with(rare, 3, 32), 9, 33))
	// 40.9, 40.9, 40.9 and 62: 54 too much, 18 each.
	three := with(with(with(rare, 7, 1000), 40, 1000), 41, 1000)
	checkOf(t, three, 7, with(with(with(rare, 7, 22), 40, 22), 41, 22))
	// 21.1, 42.2, 63.3 and 62: 60 too much, 21 from the greatest, then 20 and 19.
	three = with(with(with(rare, 7, 1000), 40, 2000), 41, 3000)
	checkOf(t, three, 7, with(with(with(rare, 7, 21), 40, 22), 41, 23))
	// The same with 13 that do not come: 47 too much, 21, then 13 and 13.
	few := append(alike(52, 1), alike(13, 0)...)
	three = with(with(with(few, 7, 1000), 40, 2000), 41, 3000)
	checkOf(t, three, 7, with(with(with(few, 7, 21), 40, 29), 41, 29))
	// By log 12 nothing is too much but what each gets above its share.
	checkOf(t, with(with(rare, 0, 1<<20), 1, 1<<20), 12, with(with(rare, 0, 2016), 1, 2017))
}

func TestOfAllAlike(t *testing.T) { // 12.1
	for _, n := range []int{1, 2, 1000, api.MaxBits} {
		checkOf(t, alike(65, n), 7, with(alike(65, 1), 0, 64))
		checkOf(t, alike(65, n), 8, with(alike(65, 3), 0, 64))
		checkOf(t, alike(65, n), 9, with(alike(65, 7), 0, 64))
		checkOf(t, alike(65, n), 10, with(alike(65, 15), 0, 64))
		checkOf(t, alike(65, n), 11, with(alike(65, 31), 0, 64))
		checkOf(t, alike(65, n), 12, with(alike(65, 63), 0, 64))
		checkOf(t, at(0, alike(64, n)...), 7, at(0, alike(64, 2)...))
		checkOf(t, at(1, alike(64, n)...), 12, at(1, alike(64, 64)...))
	}
}

func TestOfAsTheDocumentWordsIt(t *testing.T) { // 12.1
	for _, freq := range frequencies(122) {
		for _, log := range logs() {
			checkOf(t, freq, log, shared(freq, log))
		}
	}
}

func TestOfAtTheEdgesOfNumbers(t *testing.T) { // 12.1
	for class := range api.Classes {
		for _, n := range []int{-1, api.MaxBits + 1, -api.MaxBits, 1 << 32, 1<<32 + 5, math.MinInt, math.MaxInt} {
			checkNotOf(t, at(class, n), 9)
			checkNotOf(t, with(alike(65, 5), class, n), 9)
			checkNotOf(t, with(at((class+1)%65, api.MaxBits), class, n), 7)
		}
		freq := with(alike(65, 3), class, api.MaxBits)
		checkOf(t, freq, 12, shared(freq, 12))
	}
	checkNotOf(t, alike(65, 0), 7)
	checkNotOf(t, alike(65, -1), 7)
	checkNotOf(t, alike(65, api.MaxBits+1), 7)
	checkNotOf(t, alike(65, math.MaxInt), 7)
	checkNotOf(t, alike(65, math.MinInt), 7)
	// These numbers' sum is 1, and wraps round to 1.
	checkNotOf(t, at(0, -1, 2), 7)
	checkNotOf(t, at(0, math.MinInt, math.MinInt, 1), 7)
}

func TestOfNotClassesNumbers(t *testing.T) { // 12.1
	for _, n := range []int{0, 1, 2, 63, 64, 66, 67, 128, 130, 1000} {
		for _, v := range []int{-1, 0, 1, api.MaxBits, api.MaxBits + 1} {
			for _, log := range append(logs(), noLogs...) {
				checkNotOf(t, alike(n, v), log)
			}
		}
	}
	checkNotOf(t, nil, 7)
	checkNotOf(t, []int{}, 7)
	checkNotOf(t, alike(65, 3)[:64], 7)
	checkNotOf(t, append(alike(65, 3), 0), 7)
}

func TestOfALogThatIsNone(t *testing.T) { // 12.1
	for _, log := range noLogs {
		for _, freq := range [][]int{at(0, 5), alike(65, 1), at(3, 1, 2, 3), alike(65, 0), at(0, -1)} {
			checkNotOf(t, freq, log)
		}
	}
}

func checkMay(t *testing.T, l []int, log int, want bool) {
	t.Helper()
	if norm.May(l, log) != want {
		t.Errorf("May(%d, %d) is not %t", l, log, want)
	}
}

func TestMay(t *testing.T) { // 12.2
	for _, log := range logs() {
		size := 1 << log
		for class := range api.Classes {
			checkMay(t, at(class, size), log, true)
			checkMay(t, with(alike(65, 1), class, size-64), log, true)
			checkMay(t, with(alike(65, 1), class, size-63), log, false)
			checkMay(t, with(alike(65, 1), class, size-65), log, false)
		}
		for n := range size {
			checkMay(t, at(n%64, n, size-n), log, true)
			checkMay(t, at(n%64, n, size-n-1), log, false)
			checkMay(t, at(n%64, n, size-n+1), log, false)
		}
		checkMay(t, at(0), log, false)
		checkMay(t, at(0, size), log-1, false)
		checkMay(t, at(0, size), log+1, false)
	}
	checkMay(t, at(0, 4095, 1), 12, true)
	checkMay(t, at(0, alike(64, 2)...), 7, true)
	checkMay(t, alike(65, 2), 7, false)
}

func TestMayOfANumberBelowNought(t *testing.T) { // 12.2
	for _, log := range logs() {
		for class := range api.Classes - 1 {
			for _, n := range []int{-1, -128, -1 << 32, math.MinInt, math.MinInt + 1} {
				// The sum is right, or wraps round to what is right.
				checkMay(t, at(class, 1<<log-n, n), log, false)
				checkMay(t, at(class, n, 1<<log-n), log, false)
			}
		}
	}
	checkMay(t, alike(65, -1), 7, false)
}

func TestMayOfASumThatWrapsRound(t *testing.T) { // 12.2
	checkMay(t, at(0, 1<<62, 1<<62, 1<<62, 1<<62, 128), 7, false)
	checkMay(t, at(40, 128, 1<<62, 1<<62, 1<<62, 1<<62), 7, false)
	checkMay(t, at(0, math.MaxInt, math.MaxInt, 2+128), 7, false)
	checkMay(t, at(0, math.MaxInt, math.MaxInt, 2+4096), 12, false)
	checkMay(t, at(0, 1<<32+128), 7, false)
	checkMay(t, at(0, 1<<32, 128), 7, false)
	checkMay(t, at(0, append(alike(64, 1<<58), 128)...), 7, false)
	checkMay(t, append(alike(64, 1<<58), 4096), 12, false)
}

func TestMayOfNotClassesNumbers(t *testing.T) { // 12.2
	for _, log := range logs() {
		for _, n := range []int{1, 2, 63, 64, 66, 67, 128, 130} {
			checkMay(t, with(alike(n, 0), 0, 1<<log), log, false)
			checkMay(t, with(alike(n, 0), n-1, 1<<log), log, false)
			checkMay(t, alike(n, 0), log, false)
		}
		checkMay(t, nil, log, false)
		checkMay(t, []int{}, log, false)
		checkMay(t, alike(64, 1<<log/64), log, false)
	}
}

func TestMayOfALogThatIsNone(t *testing.T) { // 12.2
	checkMay(t, at(0, 64), 6, false)
	checkMay(t, at(0, 8192), 13, false)
	for _, log := range noLogs {
		for _, n := range []int{0, 1, 2, 64, 128, 4096, 8192, 1 << 16, math.MaxInt, math.MinInt} {
			checkMay(t, at(0, n), log, false)
		}
		checkMay(t, nil, log, false)
	}
}

// normed are numbers that may be, with the log by which they may.
type normed struct {
	l   []int
	log int
}

// mixed are such ones, with and without noughts, that frequencies give and not.
func mixed(seed uint64) []normed {
	lists := []normed{
		{at(0, 128), 7}, {at(64, 128), 7}, {at(30, 4096), 12}, {at(0, 4095, 1), 12}, {at(0, alike(64, 2)...), 7},
		{at(1, alike(64, 2)...), 7}, {at(0, 64, 64), 7}, {with(at(0, 64), 64, 64), 7}, {with(alike(65, 1), 64, 64), 7},
	}
	next := chain(seed)
	for i := range 400 {
		log := api.LeastLog + i%6
		l, left := at(0), 1<<log
		for left > 0 {
			n := 1 + next(1+left/(1+next(8)))
			n = min(n, left)
			l[next(len(l))] += n
			left -= n
		}
		lists = append(lists, normed{l, log})
	}
	for i, freq := range frequencies(seed + 1) {
		lists = append(lists, normed{shared(freq, api.LeastLog+i%6), api.LeastLog + i%6})
	}
	return lists
}

// expected tells by another way the Put of l: each row of noughts is gone
// through to its end, place by place.
func expected(l []int) string {
	var b []byte
	for i, n := range l {
		if n != 0 {
			b = binary.AppendUvarint(b, uint64(n))
			continue
		}
		if i > 0 && l[i-1] == 0 {
			continue
		}
		last := i
		for last+1 < len(l) && l[last+1] == 0 {
			last++
		}
		b = append(b, 0)
		b = binary.AppendUvarint(b, uint64(last-i))
	}
	return string(b)
}

// number tells by another way the number at the beginning of s, and its bytes.
func number(s string) (uint64, int, api.Errno) {
	n, many := binary.Uvarint([]byte(s[:min(len(s), 10)]))
	switch {
	case many == 0 && len(s) < 10:
		return 0, 0, api.ErrMore
	case many <= 0 || many > 1 && s[many-1] == 0:
		return 0, 0, api.ErrForm
	}
	return n, many, api.OK
}

// spelled tells the numbers of all s, however many, whatever they are.
func spelled(s string) []int {
	var l []int
	for s != "" {
		n, many := binary.Uvarint([]byte(s))
		s = s[many:]
		if n > 0 {
			l = append(l, int(n))
			continue
		}
		n, many = binary.Uvarint([]byte(s))
		s = s[many:]
		l = append(l, alike(int(n)+1, 0)...)
	}
	return l
}

// expectedGet tells by another way what Get answers where at is a place of s
// and log is one.
func expectedGet(s string, at, log int) ([]int, int, api.Errno) {
	l, next, total := []int{}, at, new(big.Int)
	for len(l) < api.Classes {
		n, many, e := number(s[next:])
		if e != api.OK {
			return nil, 0, e
		}
		next += many
		total.Add(total, new(big.Int).SetUint64(n))
		if n > 0 {
			l = append(l, int(n))
			continue
		}
		if n, many, e = number(s[next:]); e != api.OK {
			return nil, 0, e
		}
		next += many
		if n >= uint64(api.Classes-len(l)) {
			return nil, 0, api.ErrForm
		}
		l = append(l, alike(int(n)+1, 0)...)
	}
	if total.Cmp(big.NewInt(1<<log)) != 0 || s[at:next] != expected(l) {
		return nil, 0, api.ErrForm
	}
	return l, next, api.OK
}

func checkGet(t *testing.T, s string, at, log int, want []int, next int, e api.Errno) {
	t.Helper()
	l, n, got := norm.Get(s, at, log)
	if got != e || n != next || !slices.Equal(l, want) || e != api.OK && l != nil {
		t.Errorf("Get(%q, %d, %d) = %d, %d, %d, want %d, %d, %d", s, at, log, l, n, got, want, next, e)
	}
}

func checkError(t *testing.T, s string, at, log int, e api.Errno) {
	t.Helper()
	checkGet(t, s, at, log, nil, 0, e)
}

// checkBoth holds Put, and Get of it, against the bytes that are wanted.
func checkBoth(t *testing.T, l []int, log int, want string) {
	t.Helper()
	if got := norm.Put(l); got != want {
		t.Errorf("Put(%d) = %q, want %q", l, got, want)
	}
	checkGet(t, want, 0, log, l, len(want), api.OK)
}

func TestPutOfKnownNumbers(t *testing.T) { // 12.3
	// A class alone, between two rows of noughts: of 10 and of 54.
	checkBoth(t, at(10, 4096), 12, "\x00\x09\x80\x20\x00\x35")
	checkBoth(t, at(1, 128), 7, "\x00\x00\x80\x01\x00\x3e")
	checkBoth(t, at(63, 128), 7, "\x00\x3e\x80\x01\x00\x00")
	checkBoth(t, at(0, 128), 7, "\x80\x01\x00\x3f")
	checkBoth(t, at(64, 128), 7, "\x00\x3f\x80\x01")
	checkBoth(t, at(0, 64, 64), 7, "\x40\x40\x00\x3e")
	checkBoth(t, at(63, 64, 64), 7, "\x00\x3e\x40\x40")
	checkBoth(t, with(at(0, 1), 64, 127), 7, "\x01\x00\x3e\x7f")
	checkBoth(t, at(1, 1, 0, 127), 7, "\x00\x00\x01\x00\x00\x7f\x00\x3c")
	checkBoth(t, at(20, 300, 0, 0, 212), 9, "\x00\x13\xac\x02\x00\x01\xd4\x01\x00\x28")
	checkBoth(t, at(0, 1, 0, 2, 0, 0, 125), 7, "\x01\x00\x00\x02\x00\x01\x7d\x00\x3a")
	checkBoth(t, with(alike(65, 1), 0, 64), 7, "\x40"+strings.Repeat("\x01", 64))
	checkBoth(t, with(alike(65, 63), 64, 64), 12, strings.Repeat("\x3f", 64)+"\x40")
	checkBoth(t, at(0, alike(64, 2)...), 7, strings.Repeat("\x02", 64)+"\x00\x00")
	checkBoth(t, at(1, alike(64, 2)...), 7, "\x00\x00"+strings.Repeat("\x02", 64))
}

// Put asks neither how many there are nor what their sum is.
func TestPutOfOtherLists(t *testing.T) { // 12.3
	for _, c := range []struct {
		l    []int
		want string
	}{
		{nil, ""}, {[]int{}, ""}, {[]int{0}, "\x00\x00"}, {[]int{0, 0}, "\x00\x01"}, {[]int{1}, "\x01"}, {[]int{127, 128}, "\x7f\x80\x01"},
		{[]int{0, 0, 5, 0}, "\x00\x01\x05\x00\x00"}, {[]int{0, 1, 0, 1, 0}, "\x00\x00\x01\x00\x00\x01\x00\x00"}, {alike(65, 0), "\x00\x40"},
		{alike(128, 0), "\x00\x7f"}, {alike(129, 0), "\x00\x80\x01"}, {alike(1<<14+1, 0), "\x00\x80\x80\x01"},
		{[]int{math.MaxInt, 0}, "\xff\xff\xff\xff\xff\xff\xff\xff\x7f\x00\x00"}, {append(alike(300, 0), 300), "\x00\xab\x02\xac\x02"},
	} {
		if got := norm.Put(c.l); got != c.want {
			t.Errorf("Put(%d) = %q, want %q", c.l, got, c.want)
		}
	}
}

func TestPutOfManyLists(t *testing.T) { // 12.3
	for _, n := range mixed(123) {
		if got, want := norm.Put(n.l), expected(n.l); got != want {
			t.Errorf("Put(%d) = %q, want %q", n.l, got, want)
		}
	}
	next := chain(124)
	for range 2000 {
		l := make([]int, next(300))
		for i := range l {
			l[i] = max(next(1+1<<next(30))-next(1<<20), 0)
		}
		if got, want := norm.Put(l), expected(l); got != want {
			t.Errorf("Put(%d) = %q, want %q", l, got, want)
		}
	}
}

// Of numbers below 0 nothing is said, but that Put ends.
func TestPutOfNumbersBelowNoughtEnds(t *testing.T) { // R1
	for _, n := range []int{-1, -128, math.MinInt} {
		norm.Put(at(0, n))
		norm.Put(at(64, n))
		norm.Put([]int{n})
		norm.Put(alike(1000, n))
		norm.Put([]int{0, n, 0})
	}
}

func TestGetOfPut(t *testing.T) { // 12.3
	for _, n := range mixed(125) {
		s := norm.Put(n.l)
		for _, ahead := range []string{"", "x", "\x00", "\x80", "\xff\x0f", strings.Repeat("\x80", 12), s} {
			for _, behind := range []string{"", "\x00", "\x00\x00", "\x01", "\x80", "\xff\xff", strings.Repeat("\xff", 12), s} {
				checkGet(t, ahead+s+behind, len(ahead), n.log, n.l, len(ahead)+len(s), api.OK)
			}
		}
	}
}

func TestGetOfManyOneBehindAnother(t *testing.T) { // 12.3
	lists := mixed(126)
	var s strings.Builder
	for _, n := range lists {
		s.WriteString(norm.Put(n.l))
	}
	place := 0
	for _, n := range lists {
		want := place + len(norm.Put(n.l))
		checkGet(t, s.String(), place, n.log, n.l, want, api.OK)
		place = want
	}
	if place != s.Len() {
		t.Error("the last one ends at", place, "of", s.Len())
	}
}

func TestGetByAnotherLog(t *testing.T) { // 12.3
	for _, n := range mixed(127) {
		for _, log := range logs() {
			if log != n.log {
				checkError(t, norm.Put(n.l), 0, log, api.ErrForm)
			}
		}
		for _, log := range noLogs {
			checkError(t, norm.Put(n.l), 0, log, api.ErrArg)
		}
	}
}

func TestGetOutsideOfTheBytes(t *testing.T) { // 12.3, R3
	s := norm.Put(at(0, 128))
	for _, s := range []string{"", "x", s, s + s, strings.Repeat("\x01", 300)} {
		for _, place := range []int{-1, -2, -4, -len(s) - 1, math.MinInt, math.MinInt + 1, len(s) + 1, len(s) + 2, len(s) + 256, 1 << 32, 1 << 61, math.MaxInt, math.MaxInt - 1} {
			for _, log := range append(logs(), noLogs...) {
				checkError(t, s, place, log, api.ErrArg)
			}
		}
		checkError(t, s, len(s), 7, api.ErrMore)
		checkError(t, s, len(s), 12, api.ErrMore)
		checkError(t, s, len(s), 6, api.ErrArg)
		checkError(t, s, len(s), 13, api.ErrArg)
	}
	for _, log := range noLogs {
		checkError(t, s, 0, log, api.ErrArg)
		checkError(t, "", 0, log, api.ErrArg)
	}
}

func TestGetOfBytesThatEndTooEarly(t *testing.T) { // 12.3
	for _, n := range mixed(128) {
		s := norm.Put(n.l)
		for k := range len(s) {
			checkError(t, s[:k], 0, n.log, api.ErrMore)
			checkError(t, "\x80"+s[:k], 1, n.log, api.ErrMore)
		}
	}
}

// What is wrong with all numbers is asked once all are there.
func TestGetOfWrongBytesThatEndTooEarly(t *testing.T) { // 12.3, R2
	most := strings.Repeat("\xff", 9) + "\x01"
	for _, s := range []string{
		"\x00", "\x00\x3f", "\x00\x1f\x00\x1e", "\x00\x1f\x00", "\x80", "\x80\x01\x00", most, most + "\x00", most + "\x00\x3e",
		"\x81\x01\x00\x3e", "\xff\x7f", "\x00\x80", "\x00\xff\xff\xff", "\x00\x00\x00\x00", strings.Repeat("\x7f", 64), strings.Repeat(most, 64),
		strings.Repeat("\x7f", 64) + "\x00", strings.Repeat("\x00\x00", 64), strings.Repeat("\x00\x00", 64) + "\x00", strings.Repeat("\x80", 9),
	} {
		for _, log := range logs() {
			checkError(t, s, 0, log, api.ErrMore)
			checkError(t, "ab"+s, 2, log, api.ErrMore)
		}
	}
}

// Get's error comes ahead of all that is asked of the numbers, but not of what
// is asked of a row ahead of it.
func TestGetOfNumbersThatAreNone(t *testing.T) { // 12.3
	most := strings.Repeat("\xff", 9)
	for _, s := range []string{
		"\x80\x00", "\x80\x80\x00", "\x81\x00", "\xff\x00", "\x80\x81\x00\x00\x3f", "\x80\x80\x01\x00\x3f", most + "\x02", most + "\x7f", most + "\xff",
		most + "\x00", strings.Repeat("\x80", 10), strings.Repeat("\xff", 12), "\x01\x80\x00", "\x00\x80\x00", "\x00\xbf\x00", "\x00\x01\x80\x00",
		"\x80\x01\x00\xbf\x00", "\x00" + most + "\x02", "\x00" + most + "\xff", strings.Repeat("\x01", 64) + "\xc0\x00", strings.Repeat("\x02", 64) + "\x00\x80\x00",
		"\xc0\x00\x40\x00\x3e", "\x40\x40\x00\xbe\x00",
	} {
		for _, log := range logs() {
			checkError(t, s, 0, log, api.ErrForm)
			checkError(t, "\x80"+s+strings.Repeat("\x01", 70), 1, log, api.ErrForm)
		}
	}
}

func TestGetOfARowInTwoParts(t *testing.T) { // 12.3
	for _, s := range []string{
		"\x80\x01\x00\x00\x00\x3e", "\x80\x01\x00\x1f\x00\x1f", "\x80\x01\x00\x3e\x00\x00", "\x80\x01" + strings.Repeat("\x00\x00", 64),
		"\x00\x00\x00\x3e\x80\x01", "\x00\x3e\x00\x00\x80\x01", "\x00\x04\x00\x04\x80\x01\x00\x35", "\x00\x09\x80\x01\x00\x2f\x00\x05",
		"\x40\x00\x10\x00\x10\x40\x00\x1c", "\x40\x00\x1e\x00\x1f\x40", "\x00\x00\x00\x00" + strings.Repeat("\x02", 62) + "\x04",
		strings.Repeat("\x02", 62) + "\x04" + "\x00\x00\x00\x00",
	} {
		l := spelled(s)
		if !norm.May(l, 7) {
			t.Errorf("%q is wrong otherwise too: %d", s, l)
		}
		checkError(t, s, 0, 7, api.ErrForm)
		checkError(t, "\x00"+s+"\x00\x00", 1, 7, api.ErrForm)
		// What would be right is found where it is asked for, and only there.
		right := expected(l)
		checkError(t, s+right, 0, 7, api.ErrForm)
		checkError(t, right+s, len(right), 7, api.ErrForm)
		checkGet(t, s+right, len(s), 7, l, len(s+right), api.OK)
	}
}

func TestGetOfARowBehindTheLastClass(t *testing.T) { // 12.3
	most := strings.Repeat("\xff", 9) + "\x01"
	for _, further := range []string{"\x40", "\x41", "\x7f", "\x80\x01", "\xc0\x01", "\xff\xff\x03", strings.Repeat("\xff", 8) + "\x7f", strings.Repeat("\x80", 9) + "\x01", most} {
		checkError(t, "\x80\x01\x00"+further, 0, 7, api.ErrForm)
		checkError(t, "x\x80\x01\x00"+further+"\x00", 1, 7, api.ErrForm)
		checkError(t, strings.Repeat("\x02", 64)+"\x00"+further, 0, 7, api.ErrForm)
		checkError(t, "\x00\x3f\x00"+further, 0, 7, api.ErrForm)
	}
	checkError(t, strings.Repeat("\x02", 64)+"\x00\x01", 0, 7, api.ErrForm)
	checkGet(t, strings.Repeat("\x02", 64)+"\x00\x00", 0, 7, at(0, alike(64, 2)...), 66, api.OK)
	// Of 65 noughts it is the sum, of 66 the row.
	checkError(t, "\x00\x40", 0, 7, api.ErrForm)
	checkError(t, "\x00\x41", 0, 7, api.ErrForm)
	// Ahead of the end of the bytes that are to come.
	checkError(t, "\x80\x01\x00\x1f\x00\x20", 0, 7, api.ErrForm)
	checkError(t, "\x80\x01\x00\x1f\x00\x1e", 0, 7, api.ErrMore)
}

func TestGetOfASumThatIsAnother(t *testing.T) { // 12.3
	most := strings.Repeat("\xff", 9) + "\x01"
	for _, s := range []string{
		"\x7f\x00\x3f", "\x81\x01\x00\x3f", "\x01\x00\x3f", "\x40\x41\x00\x3e", "\x40\x3f\x00\x3e", "\x00\x40", strings.Repeat("\x01", 65),
		strings.Repeat("\x02", 65), strings.Repeat("\x7f", 65), most + "\x00\x3f", strings.Repeat(most, 65),
		// Sums that wrap round: of -1 and 129, of 2^63 twice and 128, of 2^32 and 128.
		most + "\x81\x01\x00\x3e", "\x81\x01" + most + "\x00\x3e", strings.Repeat("\x80\x80\x80\x80\x80\x80\x80\x80\x80\x01", 2) + "\x80\x01\x00\x3d",
		"\x80\x80\x80\x80\x10\x80\x01\x00\x3e", "\x80\x81\x80\x80\x10\x00\x3f",
		strings.Repeat("\x80\x80\x80\x80\x80\x80\x80\x80\x40", 4) + "\x80\x01\x00\x3b",
	} {
		if l := spelled(s); len(l) != api.Classes || expected(l) != s {
			t.Errorf("%q is wrong otherwise too: %d", s, l)
		}
		checkError(t, s, 0, 7, api.ErrForm)
		checkError(t, "ab"+s+"\x00", 2, 7, api.ErrForm)
	}
}

// One byte of a Put is turned to other ones.
func TestGetOfBytesOfWhichOneIsTurned(t *testing.T) { // 12.3
	for i, n := range mixed(129) {
		if i > 20 && i%9 != 0 {
			continue
		}
		s := []byte(norm.Put(n.l))
		for k := range s {
			for _, v := range []byte{1, 2, 3, 4, 8, 16, 32, 64, 128, 129, 255, s[k]} {
				s[k] ^= v
				want, next, e := expectedGet(string(s), 0, n.log)
				checkGet(t, string(s), 0, n.log, want, next, e)
				s[k] ^= v
			}
		}
	}
}

// Bytes of chance, of few kinds, so that many have all numbers.
func TestGetOfBytesOfChance(t *testing.T) { // 12.3, R1
	next := chain(130)
	seen := map[api.Errno]int{}
	for i := range 40000 {
		kinds := []string{"\x00\x01\x02", "\x02\x02\x02\x02\x01\x03\x02", "\x00\x1f\x3f\x40\x80\x01", "\x7f\x80\x00", "\x00\x10\x40\x20", "\x80\x81\x01\x00\xff"}[i%6]
		var b strings.Builder
		for range next(140) {
			b.WriteByte(kinds[next(len(kinds))])
		}
		s := b.String()
		if i%6 == 4 {
			s = "\x40\x40\x00\x3e"[:next(5)] + s
		}
		place, log := next(1+next(len(s)+1)), api.LeastLog+next(1+next(6))
		want, behind, e := expectedGet(s, place, log)
		checkGet(t, s, place, log, want, behind, e)
		seen[e]++
	}
	if seen[api.OK] < 50 || seen[api.ErrMore] < 100 || seen[api.ErrForm] < 100 {
		t.Error("of too few kinds:", seen)
	}
}

// Whatever Get takes may be, and its Put stands there.
func TestPutOfGet(t *testing.T) { // 12.3
	next := chain(131)
	found := 0
	lists := mixed(132)
	for range 20000 {
		n := lists[next(len(lists))]
		s := []byte(norm.Put(n.l))
		i, k := next(len(s)), next(len(s))
		s[i]++
		s[k]--
		l, behind, e := norm.Get(string(s), 0, n.log)
		if e != api.OK {
			continue
		}
		found++
		if !norm.May(l, n.log) || norm.Put(l) != string(s[:behind]) {
			t.Errorf("Get(%q) = %d, %d", s, l, behind)
		}
	}
	if found < 100 {
		t.Error("only", found, "were a Put")
	}
}

// Of many bytes no more than those of the numbers are asked for.
func TestGetAmongManyBytes(t *testing.T) { // 12.3, R1
	put := norm.Put(at(9, 100, 0, 28))
	s := strings.Repeat("\x80", 1<<20) + put + strings.Repeat("\xff", 1<<20)
	checkGet(t, s, 1<<20, 7, at(9, 100, 0, 28), 1<<20+len(put), api.OK)
	checkError(t, s, 0, 7, api.ErrForm)
	checkError(t, s, len(s), 7, api.ErrMore)
	checkError(t, s, len(s)-9, 7, api.ErrMore)
	checkError(t, s, len(s)-10, 7, api.ErrForm)
}

func TestWhatIsNormedMayBe(t *testing.T) { // 12.4
	for _, freq := range frequencies(133) {
		for _, log := range logs() {
			l, e := norm.Of(freq, log)
			if e != api.OK || !norm.May(l, log) {
				t.Errorf("Of(%d, %d) = %d, %d may not be", freq, log, l, e)
				continue
			}
			for class, n := range freq {
				if (n > 0) != (l[class] > 0) {
					t.Errorf("Of(%d, %d) = %d: %d of class %d", freq, log, l, l[class], class)
				}
			}
			s := norm.Put(l)
			checkGet(t, s, 0, log, l, len(s), api.OK)
		}
	}
}

// Numbers that are normed are normed to themselves.
func TestWhatIsNormedStays(t *testing.T) { // 12.1, 12.4
	for _, n := range mixed(134) {
		checkOf(t, n.l, n.log, n.l)
	}
}

func TestWhatIsHandedInStays(t *testing.T) { // R3
	lists := append(frequencies(135), at(0), at(0, -1), alike(65, -1), at(0, api.MaxBits+1))
	for _, freq := range lists {
		room := append(slices.Clone(freq), 7, 1, 2)
		was := slices.Clone(room)
		for _, log := range []int{6, 7, 12} {
			norm.Of(room[:api.Classes], log)
			norm.Of(room[:64], log)
			norm.Of(room[1:], log)
			norm.May(room[:api.Classes], log)
			norm.Put(room[:api.Classes])
			norm.Put(room[1:])
		}
		if !slices.Equal(room, was) {
			t.Errorf("a call changed %d to %d", was, room)
		}
	}
	for _, n := range mixed(136) {
		s := expected(n.l)
		kept := strings.Clone(s)
		norm.Get(s, 0, n.log)
		norm.Get(s, 1, n.log)
		if s != kept {
			t.Errorf("a call changed %q to %q", kept, s)
		}
	}
}

// What lies behind a list's end is none of it.
func TestSpareRoomIsNotAsked(t *testing.T) { // R3
	for _, n := range mixed(137) {
		room := append(slices.Clone(n.l), alike(65, 0)...)
		if norm.Put(room[:api.Classes]) != expected(n.l) {
			t.Errorf("Put(%d) hangs on what lies behind", n.l)
		}
		checkOf(t, room[:api.Classes], n.log, n.l)
		checkMay(t, room[:api.Classes], n.log, true)
		checkNotOf(t, room[:64], n.log)
		checkMay(t, room[:66], n.log, false)
	}
}

// overwrite writes into all of l, its spare room too.
func overwrite(l []int, v int) {
	l = l[:cap(l)]
	for i := range l {
		l[i] = v
	}
}

func TestWhatOfTellsIsNewMemory(t *testing.T) { // R3, R5
	for _, freq := range frequencies(138) {
		given := slices.Clone(freq)
		one, _ := norm.Of(given, 7)
		two, _ := norm.Of(given, 7)
		overwrite(one, 99)
		_ = append(one, 5)
		if !slices.Equal(given, freq) {
			t.Errorf("Of(%d) tells memory of what it was given", freq)
		}
		overwrite(given, 99)
		if want := shared(freq, 7); !slices.Equal(two, want) {
			t.Errorf("Of(%d) tells memory of another answer, or of what it was given", freq)
		}
		checkOf(t, freq, 7, shared(freq, 7))
	}
}

func TestWhatPutAndGetTellIsNewMemory(t *testing.T) { // R3, R5
	for _, n := range mixed(139) {
		given := slices.Clone(n.l)
		s := norm.Put(given)
		overwrite(given, 99)
		if s != expected(n.l) || norm.Put(n.l) != s {
			t.Errorf("Put of %d hangs on memory of what it was given", n.l)
		}
		one, _, _ := norm.Get(s, 0, n.log)
		two, _, _ := norm.Get(s, 0, n.log)
		overwrite(one, 99)
		_ = append(one, 5)
		if !slices.Equal(two, n.l) {
			t.Errorf("Get of %q tells memory of another answer", s)
		}
		checkGet(t, s, 0, n.log, n.l, len(s), api.OK)
	}
}

// Each number of a Put is layer 2's, and each row is one of 0 and one more.
func TestPutIsOfNumbersInBytes(t *testing.T) { // 12.3, 2.1
	for _, n := range mixed(140) {
		s, place := norm.Put(n.l), 0
		for i := 0; i < len(n.l); {
			v, next, e := vint.Get(s, place)
			if e != api.OK || v != uint64(n.l[i]) {
				t.Fatalf("Put(%d) = %q: at %d %d, %d", n.l, s, place, v, e)
			}
			i, place = i+1, next
			if v > 0 {
				continue
			}
			if v, next, e = vint.Get(s, place); e != api.OK {
				t.Fatalf("Put(%d) = %q: at %d %d", n.l, s, place, e)
			}
			i, place = i+int(v), next
			if i < len(n.l) && n.l[i] == 0 || n.l[i-1] != 0 {
				t.Fatalf("Put(%d) = %q: a row ends at %d", n.l, s, i)
			}
		}
		if place != len(s) {
			t.Errorf("Put(%d) = %q: %d bytes are its numbers'", n.l, s, place)
		}
	}
}
