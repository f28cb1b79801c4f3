package chance_test

import (
	"math"
	"math/big"
	"slices"
	"strconv"
	"strings"
	"testing"

	"wringer/api"
	"wringer/chance"
)

type encoder interface {
	Bit(p, bit int)
	Direct(v uint64, n int)
	Bytes() string
}

type decoder interface {
	Bit(p int) (int, api.Errno)
	Direct(n int) (uint64, api.Errno)
	End() api.Errno
}

func whole(n int64) *big.Int { return big.NewInt(n) }

func plus(a, b *big.Int) *big.Int { return new(big.Int).Add(a, b) }

func less(a, b *big.Int) *big.Int { return new(big.Int).Sub(a, b) }

func product(a *big.Int, n int64) *big.Int { return new(big.Int).Mul(a, whole(n)) }

// part is a over n, without the rest.
func part(a *big.Int, n int64) *big.Int { return new(big.Int).Div(a, whole(n)) }

// numbers are the two as the document words them, low of any size.
type numbers struct {
	low, size *big.Int
	times     int
}

func newNumbers() *numbers { return &numbers{low: whole(0), size: whole(4294967295)} }

func (x *numbers) b(p int) *big.Int {
	if p < 1 {
		p = 1
	}
	if p > 4095 {
		p = 4095
	}
	return product(part(x.size, 4096), int64(p))
}

func (x *numbers) Bit(p, bit int) {
	b := x.b(p)
	if bit == 0 {
		x.low, x.size = plus(x.low, b), less(x.size, b)
	} else {
		x.size = b
	}
	x.behind()
}

func (x *numbers) Direct(v uint64, n int) {
	for i := min(n, 64) - 1; i >= 0; i-- {
		x.size = part(x.size, 2)
		if v/(1<<i)%2 == 1 {
			x.low = plus(x.low, x.size)
		}
		x.behind()
	}
}

func (x *numbers) behind() {
	for x.size.Cmp(whole(16777216)) < 0 {
		x.low, x.size = product(x.low, 256), product(x.size, 256)
		x.times++
	}
}

func (x *numbers) Bytes() string {
	b := make([]byte, 5+x.times)
	left, c := x.low, new(big.Int)
	for i := len(b) - 1; i >= 0; i-- {
		left, c = new(big.Int).DivMod(left, whole(256), c)
		b[i] = byte(c.Int64())
	}
	if left.Sign() > 0 {
		panic("low has more bytes")
	}
	return string(b)
}

// reading is the other side as the document words it.
type reading struct {
	numbers
	s    string
	told bool // an error
}

func newReading(s string) *reading { return &reading{numbers: *newNumbers(), s: s} }

func (x *reading) v() *big.Int { return new(big.Int).SetBytes([]byte(x.s[:5+x.times])) }

func (x *reading) fault() api.Errno {
	if x.told {
		return api.ErrForm
	}
	x.told = true
	if len(x.s) < 5+x.times {
		return api.ErrMore
	}
	if v := x.v(); v.Cmp(x.low) < 0 || v.Cmp(plus(x.low, x.size)) >= 0 {
		return api.ErrForm
	}
	x.told = false
	return api.OK
}

func (x *reading) Bit(p int) (int, api.Errno) {
	if e := x.fault(); e != api.OK {
		return 0, e
	}
	bit := 0
	if x.v().Cmp(plus(x.low, x.b(p))) < 0 {
		bit = 1
	}
	x.numbers.Bit(p, bit)
	return bit, api.OK
}

func (x *reading) Direct(n int) (uint64, api.Errno) {
	v := uint64(0)
	for range min(n, 64) {
		if e := x.fault(); e != api.OK {
			return 0, e
		}
		bit := uint64(0)
		if x.v().Cmp(plus(x.low, part(x.size, 2))) >= 0 {
			bit = 1
		}
		x.numbers.Direct(bit, 1)
		v = v*2 + bit
	}
	return v, api.OK
}

func (x *reading) End() api.Errno {
	if e := x.fault(); e != api.OK {
		return e
	}
	if x.s != x.Bytes() {
		x.told = true
		return api.ErrForm
	}
	return api.OK
}

// step is one call: of Direct, if direct, else of Bit.
type step struct {
	direct bool
	p, bit int
	v      uint64
	n      int
}

func bit(p, b int) step { return step{p: p, bit: b} }

func direct(v uint64, n int) step { return step{direct: true, v: v, n: n} }

func put(x encoder, l ...step) {
	for _, s := range l {
		if s.direct {
			x.Direct(s.v, s.n)
		} else {
			x.Bit(s.p, s.bit)
		}
	}
}

// bytesOf tells Bytes of a new encoder that took l.
func bytesOf(l ...step) string {
	x := chance.New()
	put(x, l...)
	return x.Bytes()
}

func bytesByHand(l ...step) string {
	x := newNumbers()
	put(x, l...)
	return x.Bytes()
}

// answer of a decoder to a step's call, or of its End.
type answer struct {
	v uint64
	e api.Errno
}

func tell(y decoder, s step) answer {
	if s.direct {
		v, e := y.Direct(s.n)
		return answer{v, e}
	}
	b, e := y.Bit(s.p)
	return answer{uint64(b), e}
}

func tellAll(y decoder, l []step) []answer {
	var out []answer
	for _, s := range l {
		out = append(out, tell(y, s))
	}
	return append(out, answer{0, y.End()})
}

// what a step put, as a decoder tells it.
func (s step) what() uint64 {
	if !s.direct {
		return uint64(min(1, max(s.bit, -s.bit)))
	}
	if s.n >= 64 {
		return s.v
	}
	return s.v % (1 << max(s.n, 0))
}

// whatWasPut tells the answers of a decoder of just l's bytes.
func whatWasPut(l []step) []answer {
	var out []answer
	for _, s := range l {
		out = append(out, answer{s.what(), api.OK})
	}
	return append(out, answer{0, api.OK})
}

// chain tells numbers that hang on nothing but seed.
func chain(seed uint64) func(below int) int {
	return func(below int) int {
		seed = seed*6364136223846793005 + 1442695040888963407
		return int(seed >> 20 % uint64(below))
	}
}

var allKinds = []int{0, 1, 2, 3, 4, 5, 6}

// someSteps tells n steps of chance, of the kinds named: likely bits, unlikely
// ones, even ones, those of the edges, direct ones.
func someSteps(next func(int) int, n int, kinds []int) []step {
	l := make([]step, n)
	for i := range l {
		p := 1 + next(4095)
		b := next(2)
		switch kinds[next(len(kinds))] {
		case 0:
			l[i] = bit(p, b)
		case 1:
			l[i] = bit([]int{1, 2, 3, 4093, 4094, 4095}[next(6)], b)
		case 2:
			l[i] = bit(2048, b)
		case 3:
			l[i] = bit(p, 0)
		case 4:
			l[i] = bit(1+next(9), 1)
		case 5:
			l[i] = direct(uint64(next(1<<32))<<32|uint64(next(1<<32)), next(65))
		case 6:
			l[i] = direct([]uint64{0, math.MaxUint64}[b], 1+next(64))
		}
	}
	return l
}

// rows tells rows of steps of all kinds, and of each alone.
func rows(seed uint64, count, most int) [][]step {
	var out [][]step
	next := chain(seed)
	for i := range count {
		kinds := allKinds
		if own := i % (len(allKinds) + 2); own < len(allKinds) {
			kinds = []int{own}
		}
		out = append(out, someSteps(next, next(most+1), kinds))
	}
	return out
}

func noughts(n int) string { return strings.Repeat("\x00", n) }

func checkBytes(t *testing.T, what string, got, want string) {
	t.Helper()
	if got != want {
		t.Errorf("%s: Bytes are %q, want %q", what, got, want)
	}
}

func checkAnswers(t *testing.T, what string, got, want []answer) {
	t.Helper()
	if len(got) != len(want) {
		t.Fatalf("%s: %d answers, want %d", what, len(got), len(want))
	}
	for i := range got {
		if got[i] != want[i] {
			t.Errorf("%s: answer %d of %d is %v, want %v", what, i, len(got), got[i], want[i])
			return
		}
	}
}

func TestBytesOfNone(t *testing.T) { // 15.1
	checkBytes(t, "none", chance.New().Bytes(), "\x00\x00\x00\x00\x00")
}

// 2^32 less 1 over 4096 is 1048575; times 1 that is 0xfffff, times 2048
// 0x7ffff800, times 4095 0xffeff001, times 3 0x2ffffd.
func TestBytesByHand(t *testing.T) { // 15.1
	for _, c := range []struct {
		steps []step
		want  string
	}{
		{[]step{bit(2048, 1)}, "\x00\x00\x00\x00\x00"},
		{[]step{bit(2048, 0)}, "\x00\x7f\xff\xf8\x00"},
		{[]step{bit(1, 0)}, "\x00\x00\x0f\xff\xff"},
		{[]step{bit(3, 0)}, "\x00\x00\x2f\xff\xfd"},
		{[]step{bit(4095, 1)}, "\x00\x00\x00\x00\x00"},
		// what is left above is 0x100ffe, 256 times as much is 0x100ffe00.
		{[]step{bit(4095, 0)}, "\x00\xff\xef\xf0\x01\x00"},
		{[]step{bit(1, 1)}, "\x00\x00\x00\x00\x00\x00"},
		// 0xfffff00 over 4096 is 0xffff.
		{[]step{bit(1, 1), bit(1, 0)}, "\x00\x00\x00\x00\xff\xff"},
		// 0xffff, and 256 times as much, 0xffff00, are below 2^24: two bytes at once.
		{[]step{bit(1, 1), bit(1, 1)}, "\x00\x00\x00\x00\x00\x00\x00\x00"},
		// 0x7ffff800 and half of it.
		{[]step{bit(2048, 1), direct(1, 1)}, "\x00\x3f\xff\xfc\x00"},
		{[]step{bit(2048, 0), bit(2048, 1)}, "\x00\x7f\xff\xf8\x00"},
		// 0x800007ff is left; over 4096 0x80000, times 2048 0x40000000.
		{[]step{bit(2048, 0), bit(2048, 0)}, "\x00\xbf\xff\xf8\x00"},
		{[]step{direct(0, 1)}, "\x00\x00\x00\x00\x00"},
		{[]step{direct(1, 1)}, "\x00\x7f\xff\xff\xff"},
		// halves of 2^32 less 1: 2^31 less 1, 2^30 less 1, 2^29 less 1.
		{[]step{direct(2, 2)}, "\x00\x7f\xff\xff\xff"},
		{[]step{direct(1, 2)}, "\x00\x3f\xff\xff\xff"},
		{[]step{direct(3, 2)}, "\x00\xbf\xff\xff\xfe"},
		{[]step{direct(5, 3)}, "\x00\x9f\xff\xff\xfe"},
		{[]step{direct(0, 7)}, "\x00\x00\x00\x00\x00"},
		// 2^24 less 1 is below 2^24.
		{[]step{direct(0, 8)}, "\x00\x00\x00\x00\x00\x00"},
		{[]step{direct(1, 8)}, "\x00\x00\xff\xff\xff\x00"},
		{[]step{direct(0, 8), direct(1, 1)}, "\x00\x00\x7f\xff\xff\x80"},
	} {
		checkBytes(t, "by hand", bytesByHand(c.steps...), c.want)
		checkBytes(t, "steps "+show(c.steps), bytesOf(c.steps...), c.want)
	}
}

func show(l []step) string {
	var b strings.Builder
	for _, s := range l {
		if s.direct {
			b.WriteString("D" + strconv.FormatUint(s.v, 16) + "/" + strconv.Itoa(s.n) + " ")
		} else {
			b.WriteString("B" + strconv.Itoa(s.p) + "/" + strconv.Itoa(s.bit) + " ")
		}
	}
	return b.String()
}

// Each chance as the first one, and behind others.
func TestEachChance(t *testing.T) { // 15.1, 15.3
	for p := 1; p < 4096; p++ {
		for b := range 2 {
			for _, l := range [][]step{
				{bit(p, b)}, {bit(p, b), bit(p, 1-b)}, {bit(1000, 0), bit(p, b), bit(p, b)}, {bit(p, b), direct(uint64(p), 12)},
			} {
				s := bytesOf(l...)
				checkBytes(t, show(l), s, bytesByHand(l...))
				checkAnswers(t, show(l), tellAll(chance.From(s), l), whatWasPut(l))
			}
		}
	}
}

// Bytes behind each step are low behind it, and asking for them changes nothing.
func TestBytesOnTheWay(t *testing.T) { // 15.1, R3
	for _, l := range rows(1, 90, 60) {
		x, want := chance.New(), newNumbers()
		var told, wanted []string
		for _, s := range l {
			put(x, s)
			put(want, s)
			told, wanted = append(told, x.Bytes(), x.Bytes()), append(wanted, want.Bytes(), want.Bytes())
		}
		if !slices.Equal(told, wanted) {
			t.Errorf("%s: Bytes on the way are %q, want %q", show(l), told, wanted)
		}
		checkBytes(t, show(l), bytesOf(l...), want.Bytes())
	}
}

func TestBytesOfLongRows(t *testing.T) { // 15.1
	for i, l := range rows(2, 45, 900) {
		checkBytes(t, "row "+strconv.Itoa(i), bytesOf(l...), bytesByHand(l...))
	}
}

var chancesBelow = []int{0, -1, -2, -2048, -4096, math.MinInt32, math.MinInt + 1, math.MinInt}

var chancesAbove = []int{4096, 4097, 4098, 8192, 6144, 1 << 20, math.MaxInt32, 1<<32 + 5, math.MaxInt - 1, math.MaxInt}

// cut are chances each beside the one that it is cut to.
func cut() map[int]int {
	to := map[int]int{}
	for _, p := range chancesBelow {
		to[p] = 1
	}
	for _, p := range chancesAbove {
		to[p] = 4095
	}
	return to
}

func TestChancesOfAnEncoderAreCut(t *testing.T) { // 15.1
	for _, ahead := range rows(3, 18, 12) {
		for p, to := range cut() {
			for b := range 2 {
				got := append(slices.Clone(ahead), bit(p, b), bit(p, 0))
				want := append(slices.Clone(ahead), bit(to, b), bit(to, 0))
				checkBytes(t, show(got), bytesOf(got...), bytesByHand(want...))
			}
		}
	}
	if bytesOf(bit(1, 0)) == bytesOf(bit(2, 0)) || bytesOf(bit(4095, 0)) == bytesOf(bit(4094, 0)) {
		t.Error("1 is cut to 2, or 4095 to 4094")
	}
}

func TestChancesOfADecoderAreCut(t *testing.T) { // 15.2
	for _, ahead := range rows(4, 18, 12) {
		for p, to := range cut() {
			for b := range 2 {
				l := append(slices.Clone(ahead), bit(to, b), bit(to, 1-b))
				asked := append(slices.Clone(ahead), bit(p, b), bit(p, 1-b))
				checkAnswers(t, show(asked), tellAll(chance.From(bytesByHand(l...)), asked), whatWasPut(l))
			}
		}
	}
}

func TestAnyBitButNoughtIsOne(t *testing.T) { // 15.1
	for _, ahead := range rows(5, 9, 12) {
		for _, b := range []int{1, -1, 2, 3, 4, 256, -256, 1 << 31, 1 << 32, math.MaxInt, math.MinInt} {
			for _, p := range []int{1, 9, 2048, 4095} {
				got := append(slices.Clone(ahead), bit(p, b), bit(p, 0))
				want := append(slices.Clone(ahead), bit(p, 1), bit(p, 0))
				checkBytes(t, show(got), bytesOf(got...), bytesByHand(want...))
			}
		}
	}
}

var numbersOfBits = []uint64{0, 1, 5, 0x80, 0x1a5, 1 << 31, 1 << 32, 1 << 62, 1 << 63, 1<<63 | 1, math.MaxUint64, 0x0123456789abcdef, 0xaaaaaaaaaaaaaaaa}

func TestDirectOfAllLengths(t *testing.T) { // 15.1, 15.3
	for n := range 65 {
		for _, v := range numbersOfBits {
			l := []step{bit(1500, 0), direct(v, n), bit(1500, 0), direct(v, n)}
			s := bytesOf(l...)
			checkBytes(t, show(l), s, bytesByHand(l...))
			checkAnswers(t, show(l), tellAll(chance.From(s), l), whatWasPut(l))
		}
	}
}

func TestDirectOfTooFewOrTooManyBits(t *testing.T) { // 15.1, 15.2
	for _, n := range []int{0, -1, -8, -64, math.MinInt32, math.MinInt} {
		for _, v := range numbersOfBits {
			checkBytes(t, "no bits", bytesOf(direct(v, n)), noughts(5))
			checkBytes(t, "no bits", bytesOf(direct(6, 3), direct(v, n), bit(9, 0)), bytesByHand(direct(6, 3), bit(9, 0)))
		}
		l := []step{direct(6, 3), direct(0, n), bit(9, 0)}
		checkAnswers(t, show(l), tellAll(chance.From(bytesByHand(direct(6, 3), bit(9, 0))), l), whatWasPut(l))
		if v, e := chance.From("").Direct(n); v != 0 || e != api.OK {
			t.Error("Direct of no bits of nothing:", v, e)
		}
	}
	for _, n := range []int{64, 65, 66, 128, 1 << 32, 1<<32 + 1, math.MaxInt} {
		for _, v := range numbersOfBits {
			s := bytesOf(direct(6, 3), direct(v, n), bit(9, 0))
			checkBytes(t, "too many bits", s, bytesByHand(direct(6, 3), direct(v, 64), bit(9, 0)))
			l := []step{direct(6, 3), direct(v, n), bit(9, 0)}
			checkAnswers(t, show(l), tellAll(chance.From(s), l), whatWasPut(l))
		}
	}
}

// The highest bit comes first: as so many calls of one bit each.
func TestDirectBitByBit(t *testing.T) { // 15.1, 15.2
	for n := range 65 {
		for _, v := range numbersOfBits {
			x, y := chance.New(), chance.New()
			x.Direct(v, n)
			for i := n - 1; i >= 0; i-- {
				y.Direct(v>>i, 1)
			}
			checkBytes(t, "bit by bit", y.Bytes(), x.Bytes())
			z := chance.From(x.Bytes())
			for i := n - 1; i >= 0; i-- {
				if b, e := z.Direct(1); b != v>>i&1 || e != api.OK {
					t.Errorf("bit %d of %#x is %d, %d", i, v, b, e)
				}
			}
			if e := z.End(); e != api.OK {
				t.Error("End:", e)
			}
		}
	}
}

func TestBitsAboveAreNotPut(t *testing.T) { // 15.1
	for n := range 64 {
		checkBytes(t, "bits above", bytesOf(direct(math.MaxUint64<<n, n)), bytesByHand(direct(0, n)))
		checkBytes(t, "bits above", bytesOf(direct(math.MaxUint64<<n|1, n)), bytesByHand(direct(1, n)))
	}
}

// underANumber tells steps behind which low is below 0x80 and then bytes 0, and
// low and range are above it: so low's bytes are 0x7f and then 255, but for the
// last four. Behind them is a step by which low goes above it.
func underANumber(t *testing.T, next func(int) int, size int) (steps []step, last step) {
	t.Helper()
	y := newReading("\x00\x80" + noughts(size+20))
	for y.times < size {
		p := 1 + next(4095)
		over := less(y.v(), y.low)
		// nothing may lie between low and the number, and they are never to be one.
		if over.Cmp(y.b(p)) == 0 {
			p--
		}
		b, _ := y.Bit(p)
		steps = append(steps, bit(p, b))
	}
	for p := 1; p < 4096; p++ {
		if y.b(p).Cmp(less(y.v(), y.low)) > 0 {
			return steps, bit(p, 0)
		}
	}
	t.Fatal("the number lies too high")
	return nil, step{}
}

func TestACarryGoesThroughManyBytes(t *testing.T) { // 15.1, 15.3
	next := chain(6)
	for _, size := range []int{4, 5, 6, 9, 40, 300} {
		steps, last := underANumber(t, next, size)
		x := chance.New()
		put(x, steps...)
		ahead := x.Bytes()
		if !strings.HasPrefix(ahead, "\x00\x7f"+strings.Repeat("\xff", len(ahead)-6)) {
			t.Fatalf("the test's own: %q", ahead)
		}
		put(x, last)
		s := x.Bytes()
		if !strings.HasPrefix(s, "\x00\x80"+noughts(len(ahead)-6)) {
			t.Errorf("behind the carry: %q", s)
		}
		checkBytes(t, "ahead of the carry", ahead, bytesByHand(steps...))
		all := append(slices.Clone(steps), last, bit(77, 0), direct(5, 9))
		checkBytes(t, "behind the carry", s, bytesByHand(all[:len(steps)+1]...))
		put(x, bit(77, 0), direct(5, 9))
		checkBytes(t, "behind the carry", x.Bytes(), bytesByHand(all...))
		checkAnswers(t, "the carry", tellAll(chance.From(x.Bytes()), all), whatWasPut(all))
	}
}

func TestRangeFallsByMoreThanOneByte(t *testing.T) { // 15.1, 15.3
	fell := 0
	next := chain(7)
	for range 200 {
		ahead := someSteps(next, next(20), allKinds)
		one, two := newNumbers(), newNumbers()
		put(one, ahead...)
		put(two, append(ahead, bit(1, 1))...)
		if two.times != one.times+2 {
			continue
		}
		fell++
		l := append(ahead, bit(1, 1), bit(1, 1), bit(2, 0))
		s := bytesOf(l...)
		checkBytes(t, show(l), bytesOf(l[:len(ahead)+1]...), two.Bytes())
		checkBytes(t, show(l), s, bytesByHand(l...))
		checkAnswers(t, show(l), tellAll(chance.From(s), l), whatWasPut(l))
	}
	if fell < 20 {
		t.Error("the test's own: range fell by two bytes", fell, "times")
	}
}

func TestWhatWasPutIsTold(t *testing.T) { // 15.2, 15.3
	for i, l := range rows(8, 180, 400) {
		s := bytesOf(l...)
		checkAnswers(t, "row "+strconv.Itoa(i), tellAll(chance.From(s), l), whatWasPut(l))
	}
}

// All rows of up to nine bits of three chances.
func TestAllShortRowsAreTold(t *testing.T) { // 15.3
	for n := range 7 {
		rows := int(math.Pow(6, float64(n)))
		for row := range rows {
			var l []step
			for range n {
				l = append(l, bit([]int{1, 2048, 4095}[row%3], row/3%2))
				row /= 6
			}
			checkAnswers(t, show(l), tellAll(chance.From(bytesOf(l...)), l), whatWasPut(l))
		}
	}
}

func TestALongRow(t *testing.T) { // 15.3
	next := chain(9)
	l := someSteps(next, 60000, allKinds)
	checkAnswers(t, "a long row", tellAll(chance.From(bytesOf(l...)), l), whatWasPut(l))
}

// firstCalls are a decoder's calls by which an error can be told.
var firstCalls = map[string]func(y decoder) (uint64, api.Errno){
	"Bit":           func(y decoder) (uint64, api.Errno) { a := tell(y, bit(2048, 0)); return a.v, a.e },
	"Bit of 0":      func(y decoder) (uint64, api.Errno) { a := tell(y, bit(0, 0)); return a.v, a.e },
	"Direct":        func(y decoder) (uint64, api.Errno) { a := tell(y, direct(0, 1)); return a.v, a.e },
	"Direct of 64":  func(y decoder) (uint64, api.Errno) { a := tell(y, direct(0, 64)); return a.v, a.e },
	"Direct of 999": func(y decoder) (uint64, api.Errno) { a := tell(y, direct(0, 999)); return a.v, a.e },
	"End":           func(y decoder) (uint64, api.Errno) { return 0, y.End() },
}

// checkFails asks for an error by each call, and for ErrForm behind it by each.
func checkFails(t *testing.T, s string, ahead []step, want api.Errno) {
	t.Helper()
	for name, first := range firstCalls {
		y := chance.From(s)
		for _, step := range ahead {
			if a := tell(y, step); a.e != api.OK {
				t.Errorf("%q: %v ahead of the error", s, a)
			}
		}
		if v, e := first(y); v != 0 || e != want {
			t.Errorf("%s of %q = %d, %d, want error %d", name, s, v, e, want)
		}
		for range 2 {
			for behind, next := range firstCalls {
				if v, e := next(y); v != 0 || e != api.ErrForm {
					t.Errorf("%s behind %s of %q = %d, %d, want ErrForm", behind, name, s, v, e)
				}
			}
		}
	}
}

// ErrMore is named ahead of what the bytes are: it counts of any.
func TestFewerThanFiveBytes(t *testing.T) { // 15.2, R2
	for _, s := range []string{"", "\x00", "\x00\x00", "\x00\x7f\xff", "\x00\x00\x00\x00", "\x01", "\xff\xff\xff\xff", "\x00\xff\xff\xff"} {
		checkFails(t, s, nil, api.ErrMore)
	}
}

func TestBytesThatAreNotWithinTheFirstRange(t *testing.T) { // 15.2
	for _, s := range []string{
		"\x00\xff\xff\xff\xff", "\x01\x00\x00\x00\x00", "\x01\x23\x45\x67\x89", "\x80\x00\x00\x00\x00", "\xff\xff\xff\xff\xff",
		"\x00\xff\xff\xff\xff\x00", "\x01\x00\x00\x00\x00\x00\x00", "\xff\x00\x00\x00\x01\x02\x03",
	} {
		checkFails(t, s, nil, api.ErrForm)
	}
	for c := 1; c < 256; c++ {
		checkFails(t, string([]byte{byte(c), 0, 0, 0, 0}), nil, api.ErrForm)
	}
	for _, p := range []int{1, 2048, 4095} {
		if b, e := chance.From("\x00\xff\xff\xff\xfe").Bit(p); b != 0 || e != api.OK {
			t.Error("the last one of the first range:", b, e)
		}
	}
}

// Half of a range that is odd leaves its last number over: it is found at the next call.
func TestTheLastOfAnOddRange(t *testing.T) { // 15.2
	for _, s := range []string{"\x00\xff\xff\xff\xfe", "\x00\xff\xff\xff\xfe\x00", "\x00\xff\xff\xff\xfe\xff"} {
		if v, e := chance.From(s).Direct(1); v != 1 || e != api.OK {
			t.Error("the last one:", v, e)
		}
		checkFails(t, s, []step{direct(1, 1)}, api.ErrForm)
		if v, e := chance.From(s).Direct(2); v != 0 || e != api.ErrForm {
			t.Error("the last one:", v, e)
		}
	}
	if a := tellAll(chance.From("\x00\xff\xff\xff\xfd"), []step{direct(3, 2), direct(3, 2)}); a[0] != (answer{3, api.OK}) || a[1].e != api.ErrForm {
		t.Error("the last but one:", a)
	}
}

func TestBytesHeldAgainstLowAndB(t *testing.T) { // 15.2
	for _, c := range []struct {
		s   string
		p   int
		bit int
	}{
		{"\x00\x7f\xff\xf7\xff", 2048, 1}, {"\x00\x7f\xff\xf8\x00", 2048, 0}, {"\x00\x7f\xff\xf8\x00", 2049, 1},
		{"\x00\x00\x0f\xff\xfe", 1, 1}, {"\x00\x00\x0f\xff\xff", 1, 0}, {"\x00\x00\x00\x00\x00", 1, 1},
		{"\x00\xff\xef\xf0\x00", 4095, 1}, {"\x00\xff\xef\xf0\x01", 4095, 0},
	} {
		if b, e := chance.From(c.s).Bit(c.p); b != c.bit || e != api.OK {
			t.Errorf("Bit(%d) of %q = %d, %d, want %d", c.p, c.s, b, e, c.bit)
		}
	}
	for s, want := range map[string]uint64{"\x00\x7f\xff\xff\xfe": 0, "\x00\x7f\xff\xff\xff": 1, "\x00\x80\x00\x00\x00": 1, "\x00\x00\x00\x00\x00": 0} {
		if v, e := chance.From(s).Direct(1); v != want || e != api.OK {
			t.Errorf("Direct(1) of %q = %d, %d, want %d", s, v, e, want)
		}
	}
}

// A byte that lacks is asked for by the next call, and not by the one behind
// which it is needed.
func TestCutAtEachPlace(t *testing.T) { // 15.2
	for _, l := range rows(10, 27, 40) {
		s := bytesOf(l...)
		for size := range len(s) {
			y, want := chance.From(s[:size]), newReading(s[:size])
			got := tellAll(y, l)
			checkAnswers(t, show(l), got, tellAll(want, l))
			first := slices.IndexFunc(got, func(a answer) bool { return a.e != api.OK })
			if first < 0 || got[first].e != api.ErrMore {
				t.Fatalf("%q cut behind %d: %v", s, size, got)
			}
			for i, a := range got[first+1:] {
				// Of no bits there is none that could be in the way.
				none := first+1+i < len(l) && l[first+1+i].direct && l[first+1+i].n == 0
				if a.v != 0 || a.e != api.ErrForm && !none {
					t.Errorf("%q cut behind %d: %v behind ErrMore", s, size, a)
				}
			}
		}
	}
}

func TestDirectThatEndsInAnError(t *testing.T) { // 15.2, R4
	all := bytesByHand(direct(math.MaxUint64, 64))
	// The last byte is not needed but behind the last bit.
	for size := range len(all) - 1 {
		y := chance.From(all[:size])
		if v, e := y.Direct(64); v != 0 || e != api.ErrMore {
			t.Errorf("Direct(64) of %d bytes = %d, %d", size, v, e)
		}
		if v, e := y.Direct(1); v != 0 || e != api.ErrForm {
			t.Errorf("Direct(1) behind that = %d, %d", v, e)
		}
	}
	if v, e := chance.From(all).Direct(64); v != math.MaxUint64 || e != api.OK {
		t.Errorf("Direct(64) = %#x, %d", v, e)
	}
}

func TestABitTurnedAtEachPlace(t *testing.T) { // 15.2
	for _, l := range rows(11, 27, 30) {
		s := bytesOf(l...)
		for place := range 8 * len(s) {
			turned := []byte(s)
			turned[place/8] ^= 1 << (place % 8)
			got := tellAll(chance.From(string(turned)), l)
			checkAnswers(t, show(l), got, tellAll(newReading(string(turned)), l))
			if slices.Equal(got, whatWasPut(l)) {
				t.Errorf("%q tells what %q does", turned, s)
			}
		}
	}
}

// Behind each number of steps: End is OK where the bytes are already theirs.
func TestEndAheadOfAllBits(t *testing.T) { // 15.2
	for _, l := range rows(12, 45, 30) {
		s := bytesOf(l...)
		for n := range len(l) + 1 {
			y := chance.From(s)
			for _, step := range l[:n] {
				tell(y, step)
			}
			want := api.ErrForm
			if bytesByHand(l[:n]...) == s {
				want = api.OK
			}
			if e := y.End(); e != want {
				t.Errorf("%s: End behind %d of them is %d, want %d", show(l), n, e, want)
			}
			if n == len(l) {
				continue
			}
			if a := tell(y, l[n]); (a.e == api.OK) != (want == api.OK || l[n].direct && l[n].n == 0) {
				t.Errorf("%s: %v behind End", show(l), a)
			}
		}
	}
}

func TestEndThatIsOKChangesNothing(t *testing.T) { // 15.2
	y := chance.From(noughts(5))
	// Each of them leaves not quite a half of range: the eighth less than 2^24.
	for range 8 {
		for range 3 {
			if e := y.End(); e != api.OK {
				t.Fatal("End:", e)
			}
		}
		if b, e := y.Bit(2048); b != 1 || e != api.OK {
			t.Fatal("Bit:", b, e)
		}
	}
	if e := y.End(); e != api.ErrMore {
		t.Error("End:", e)
	}
	if e := y.End(); e != api.ErrForm {
		t.Error("End behind ErrMore:", e)
	}
}

func TestEndWithAByteMoreOrLess(t *testing.T) { // 15.2
	for _, l := range rows(13, 90, 60) {
		s := bytesOf(l...)
		want := whatWasPut(l)
		for _, more := range []string{"\x00", "\x01", "\xff", "\x00\x00", s, noughts(50)} {
			want[len(l)].e = api.ErrForm
			checkAnswers(t, show(l), tellAll(chance.From(s+more), l), want)
		}
		cut := s[:len(s)-1]
		checkAnswers(t, show(l), tellAll(chance.From(cut), l), tellAll(newReading(cut), l))
	}
	halves := slices.Repeat([]step{bit(2048, 1)}, 8)
	checkFails(t, noughts(5), halves, api.ErrMore)
	checkAnswers(t, "halves", tellAll(chance.From(noughts(6)), halves), whatWasPut(halves))
	checkAnswers(t, "halves", tellAll(chance.From(noughts(5)), halves[:7]), whatWasPut(halves[:7]))
}

func TestEndOfAnotherNumber(t *testing.T) { // 15.2
	for _, s := range []string{"\x00\x00\x00\x00\x01", "\x00\x00\x00\x01\x00", "\x00\x80\x00\x00\x00", "\x00\xff\xff\xff\xfe"} {
		y := chance.From(s)
		for range 2 {
			if e := y.End(); e != api.ErrForm {
				t.Errorf("End of %q is %d", s, e)
			}
		}
		for name, next := range firstCalls {
			if v, e := next(y); v != 0 || e != api.ErrForm {
				t.Errorf("%s behind End of %q = %d, %d", name, s, v, e)
			}
		}
	}
}

// anyBytes tells bytes of chance, most of which begin as those of an encoder do.
func anyBytes(next func(int) int) string {
	b := make([]byte, next(40))
	for i := range b {
		b[i] = []byte{byte(next(256)), byte(next(256)), 0, 255}[next(4)]
	}
	if len(b) > 0 && next(20) > 0 {
		b[0] = 0
	}
	return string(b)
}

// Bytes that no encoder need have told, by chances of all kinds, with End between.
func TestAnyBytes(t *testing.T) { // 15.2
	next := chain(14)
	seen := map[api.Errno]int{}
	for range 4000 {
		s := anyBytes(next)
		l := someSteps(next, next(60), allKinds)
		y, want := chance.From(s), newReading(s)
		for _, step := range l {
			got := tell(y, step)
			if a := tell(want, step); got != a {
				t.Fatalf("%q, %s: %v, want %v", s, show(l), got, a)
			}
			seen[got.e]++
			if next(30) == 0 {
				if e, wantE := y.End(), want.End(); e != wantE {
					t.Fatalf("%q, %s: End %d, want %d", s, show(l), e, wantE)
				}
			}
		}
		if e, wantE := y.End(), want.End(); e != wantE {
			t.Fatalf("%q, %s: End %d, want %d", s, show(l), e, wantE)
		}
	}
	for _, e := range []api.Errno{api.OK, api.ErrMore, api.ErrForm} {
		if seen[e] < 500 {
			t.Error("the test's own: error", e, "was told", seen[e], "times")
		}
	}
}

func TestTheMethodsOfNoEncoder(t *testing.T) { // 15.1
	var x *chance.Encoder
	for _, n := range []int{math.MinInt, -1, 0, 1, 2, 64, 65, 4096, math.MaxInt} {
		x.Bit(n, 1)
		x.Bit(n, 0)
		x.Direct(math.MaxUint64, n)
		if s := x.Bytes(); s != "" {
			t.Errorf("Bytes of nil are %q", s)
		}
	}
}

func TestTheMethodsOfNoDecoder(t *testing.T) { // 15.2
	var y *chance.Decoder
	for _, n := range []int{math.MinInt, -1, 0, 1, 2, 64, 65, 4096, math.MaxInt} {
		if b, e := y.Bit(n); b != 0 || e != api.ErrNone {
			t.Error("Bit of nil:", b, e)
		}
		if v, e := y.Direct(n); v != 0 || e != api.ErrNone {
			t.Error("Direct of nil:", n, v, e)
		}
		if e := y.End(); e != api.ErrNone {
			t.Error("End of nil:", e)
		}
	}
}

// One that New, or From, did not make is as that of nothing: each call ends.
func TestTheMethodsOfOneThatWasNotMade(t *testing.T) { // 15.1, 15.2, R1
	for _, l := range rows(16, 45, 40) {
		var x chance.Encoder
		checkBytes(t, "not made", x.Bytes(), noughts(5))
		put(&x, l...)
		checkBytes(t, show(l), x.Bytes(), bytesByHand(l...))
		var y chance.Decoder
		checkAnswers(t, show(l), tellAll(&y, l), tellAll(newReading(""), l))
	}
}

func TestTwoEncodersDoNotTouch(t *testing.T) { // 15.1, R5
	for _, l := range rows(17, 27, 60) {
		m := someSteps(chain(uint64(len(l))), len(l), allKinds)
		a, b, c := chance.New(), chance.New(), chance.New()
		for i := range l {
			put(a, l[i])
			put(b, m[i])
			put(c, l[i])
			checkBytes(t, "one of three", a.Bytes(), c.Bytes())
		}
		checkBytes(t, "the first", a.Bytes(), bytesByHand(l...))
		checkBytes(t, "the second", b.Bytes(), bytesByHand(m...))
		checkBytes(t, "a new one", chance.New().Bytes(), noughts(5))
	}
}

func TestTwoDecodersDoNotTouch(t *testing.T) { // 15.2, R5
	for _, l := range rows(18, 27, 60) {
		s := bytesOf(l...)
		a, b, failed := chance.From(s), chance.From(s), chance.From("\x01"+s[1:])
		want := whatWasPut(l)
		for i, step := range l {
			if got := tell(a, step); got != want[i] {
				t.Errorf("the first: %v, want %v", got, want[i])
			}
			tell(failed, step)
		}
		checkAnswers(t, "the second", tellAll(b, l), want)
		if e := a.End(); e != api.OK {
			t.Error("the first: End", e)
		}
	}
}

// What was told and what was handed in stay as they were.
func TestWhatWasToldStays(t *testing.T) { // 15.1, 15.2, R3
	next := chain(19)
	steps, last := underANumber(t, next, 30)
	x := chance.New()
	put(x, steps...)
	s := x.Bytes()
	was := strings.Clone(s)
	y, z := chance.From(s), chance.From(s)
	tellAll(y, steps)
	put(x, last, direct(math.MaxUint64, 64), bit(1, 0))
	checkBytes(t, "what was told", s, was)
	checkAnswers(t, "what was told", tellAll(z, steps), whatWasPut(steps))
}

func TestNoCallPanics(t *testing.T) { // R1
	all := append(append([]int{1, 2, 63, 64, 65, 2048, 4095}, chancesBelow...), chancesAbove...)
	x := chance.New()
	for _, n := range all {
		for _, v := range all {
			x.Bit(n, v)
			x.Direct(uint64(v), n)
		}
		for _, s := range []string{"", "\x00", noughts(5), noughts(900), "\x00" + strings.Repeat("\xff", 900), "\x00\xff\xff\xff\xfe", x.Bytes()} {
			y := chance.From(s)
			for _, p := range all {
				y.Bit(p)
				y.Direct(n)
				y.Direct(p)
			}
			y.End()
			y.Bit(n)
		}
	}
}
