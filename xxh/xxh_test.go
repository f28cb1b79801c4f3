package xxh_test

import (
	"math"
	"math/big"
	"strings"
	"testing"

	"wringer/xxh"
)

// num is a whole number as the document has them, worked out in numbers that
// never wrap, and then modulo 2^64.
type num struct{ n *big.Int }

func of(u uint64) num { return num{new(big.Int).SetUint64(u)} }

func wrapped(n *big.Int) num { return num{n.Mod(n, new(big.Int).Lsh(big.NewInt(1), 64))} }

func (a num) plus(b num) num  { return wrapped(new(big.Int).Add(a.n, b.n)) }
func (a num) less(b num) num  { return wrapped(new(big.Int).Sub(a.n, b.n)) }
func (a num) times(b num) num { return wrapped(new(big.Int).Mul(a.n, b.n)) }
func (a num) xor(b num) num   { return num{new(big.Int).Xor(a.n, b.n)} }

// over is a over 2^n.
func (a num) over(n uint) num {
	return num{new(big.Int).Div(a.n, new(big.Int).Lsh(big.NewInt(1), n))}
}

// rol turns a single bit n times.
func (a num) rol(n int) num {
	for range n {
		a = a.plus(a).plus(a.over(63))
	}
	return a
}

var (
	p1 = of(11400714785074694791)
	p2 = of(14029467366897019727)
	p3 = of(1609587929392839161)
	p4 = of(9650029242287828579)
	p5 = of(2870177450012600261)
)

func round(acc, word num) num { return acc.plus(word.times(p2)).rol(31).times(p1) }

func mix(h num) num {
	h = h.xor(h.over(33)).times(p2)
	h = h.xor(h.over(29)).times(p3)
	return h.xor(h.over(32))
}

// number is that of all bytes of s, the lowest first.
func number(s string) num {
	n := of(0)
	for i := len(s) - 1; i >= 0; i-- {
		n = n.times(of(256)).plus(of(uint64(s[i])))
	}
	return n
}

func sum(seed uint64, s string) uint64 {
	h, left := of(seed).plus(p5), s
	if len(s) >= 32 {
		f := []num{of(seed).plus(p1).plus(p2), of(seed).plus(p2), of(seed), of(seed).less(p1)}
		for ; len(left) >= 32; left = left[32:] {
			for i := range f {
				f[i] = round(f[i], number(left[8*i:8*i+8]))
			}
		}
		h = f[0].rol(1).plus(f[1].rol(7)).plus(f[2].rol(12)).plus(f[3].rol(18))
		for _, x := range f {
			h = h.xor(round(of(0), x)).times(p1).plus(p4)
		}
	}
	h = h.plus(of(uint64(len(s))))
	for ; len(left) >= 8; left = left[8:] {
		h = h.xor(round(of(0), number(left[:8]))).rol(27).times(p1).plus(p4)
	}
	if len(left) >= 4 {
		h = h.xor(number(left[:4]).times(p1)).rol(23).times(p2).plus(p3)
		left = left[4:]
	}
	for ; left != ""; left = left[1:] {
		h = h.xor(number(left[:1]).times(p5)).rol(11).times(p1)
	}
	return mix(h).n.Uint64()
}

// chain tells numbers that hang on nothing but seed.
func chain(seed uint64) func() uint64 {
	return func() uint64 {
		seed = seed*6364136223846793005 + 1442695040888963407
		return seed ^ seed>>29
	}
}

// someBytes tells n of them, of any kind.
func someBytes(next func() uint64, n int) string {
	b := make([]byte, n)
	for i := range b {
		b[i] = byte(next() >> 24)
	}
	return string(b)
}

var values = []uint64{
	0, 1, 2, 3, 255, 256, 1<<32 - 1, 1 << 32, 1<<33 - 1, 1 << 33, 1 << 61, 1<<63 - 1, 1 << 63, 1<<63 + 1,
	math.MaxUint64 - 1, math.MaxUint64, 0x0123456789abcdef, 0xaaaaaaaaaaaaaaaa, 0x5555555555555555,
	11400714785074694791, 14029467366897019727, 1609587929392839161, 9650029242287828579, 2870177450012600261,
}

var seeds = []uint64{0, 1, 5, 2654435761, 1 << 63, 7046029288634856825, math.MaxUint64 - 1, math.MaxUint64}

func checkRound(t *testing.T, acc, word uint64) {
	t.Helper()
	if got, want := xxh.Round(acc, word), round(of(acc), of(word)).n.Uint64(); got != want {
		t.Errorf("Round(%d, %d) = %d, want %d", acc, word, got, want)
	}
}

func checkMix(t *testing.T, h uint64) {
	t.Helper()
	if got, want := xxh.Mix(h), mix(of(h)).n.Uint64(); got != want {
		t.Errorf("Mix(%d) = %d, want %d", h, got, want)
	}
}

func checkSum(t *testing.T, seed uint64, s string) {
	t.Helper()
	if got, want := xxh.Sum(seed, s), sum(seed, s); got != want {
		t.Errorf("Sum(%d, %q) = %d, want %d", seed, s, got, want)
	}
}

func TestRoundOfKnownNumbers(t *testing.T) { // 5.1
	for _, c := range []struct{ acc, word, want uint64 }{
		{0, 0, 0},
		{1, 0, 0xc2f5e54380000000},       // P1 times 2^31
		{1 << 33, 0, 0x9e3779b185ebca87}, // turned to 1: P1
		{0x3d4d51c2d82b14b1, 1, 0},       // 2^64 less P2, and P2
		{0x3d4d51c2d82b14b2, 1, 0xc2f5e54380000000},
		{0xc2b2ae3d27d4eb4f, math.MaxUint64, 0}, // P2 less P2
	} {
		if got := xxh.Round(c.acc, c.word); got != c.want {
			t.Errorf("Round(%#x, %#x) = %#x, want %#x", c.acc, c.word, got, c.want)
		}
	}
}

func TestRoundOfAll(t *testing.T) { // 5.1
	for _, acc := range values {
		for _, word := range values {
			checkRound(t, acc, word)
		}
	}
	for i := range 64 {
		checkRound(t, 1<<i, 0)
		checkRound(t, 0, 1<<i)
		checkRound(t, 1<<i-1, math.MaxUint64-1<<i)
	}
	next := chain(51)
	for range 2000 {
		checkRound(t, next(), next())
	}
}

func TestMixOfKnownNumbers(t *testing.T) { // 5.1
	if h := xxh.Mix(0); h != 0 {
		t.Errorf("Mix(0) = %d", h)
	}
	// What h is ahead of Mix, of nothing and seed 0: P5.
	if h := xxh.Mix(2870177450012600261); h != 17241709254077376921 {
		t.Errorf("Mix(P5) = %d", h)
	}
}

func TestMixOfAll(t *testing.T) { // 5.1
	for _, h := range values {
		checkMix(t, h)
	}
	for i := range 64 {
		checkMix(t, 1<<i)
		checkMix(t, 1<<i-1)
		checkMix(t, math.MaxUint64-1<<i)
	}
	next := chain(52)
	for range 2000 {
		checkMix(t, next())
	}
}

func TestSumOfNothing(t *testing.T) { // 5.2
	if n := xxh.Sum(0, ""); n != 17241709254077376921 {
		t.Errorf("Sum(0, nothing) = %d", n)
	}
	for _, seed := range append(seeds, values...) {
		checkSum(t, seed, "")
	}
}

// Each size to beyond the fourth 32 bytes: each of the parts, of each 32, of
// each 8, of 4 and of each byte, is there once, more than once, or left out.
func TestSumOfEachSize(t *testing.T) { // 5.2
	next := chain(53)
	for size := range 140 {
		for _, seed := range seeds {
			checkSum(t, seed, someBytes(next, size))
		}
		checkSum(t, next(), someBytes(next, size))
	}
}

func TestSumOfTheLeastAndTheGreatestBytes(t *testing.T) { // 5.2
	for _, c := range []string{"\x00", "\xff", "\x80", "\x7f", "\x01"} {
		for _, size := range []int{1, 3, 4, 5, 7, 8, 11, 12, 31, 32, 33, 63, 64, 65, 100} {
			for _, seed := range seeds {
				checkSum(t, seed, strings.Repeat(c, size))
			}
		}
	}
}

// Every byte at every place counts, with all of its bits: of 47 bytes each
// part has some.
func TestSumOfEachByteAtEachPlace(t *testing.T) { // 5.2
	s := someBytes(chain(54), 47)
	for at := range s {
		for _, c := range []byte{0, 1, 2, 4, 8, 16, 32, 64, 127, 128, 255} {
			checkSum(t, 9, s[:at]+string([]byte{c})+s[at+1:])
		}
	}
}

func TestSumOfLongTexts(t *testing.T) { // 5.2
	next := chain(55)
	for _, size := range []int{255, 256, 257, 1000, 1023, 4096, 4099, 10007} {
		for _, seed := range []uint64{0, 77, math.MaxUint64} {
			checkSum(t, seed, someBytes(next, size))
		}
	}
	checkSum(t, 3, "käse, \u65e5\u672c, \xc3\x28 and more than thirty-two bytes of it")
}

// The sum hangs on the bytes, not on where they lie, and the same calls tell
// the same.
func TestSumOfAPieceOfAText(t *testing.T) { // 5.2, R1, R3
	whole := someBytes(chain(56), 200)
	was := strings.Clone(whole)
	for at := range 9 {
		for _, size := range []int{0, 1, 4, 8, 31, 32, 33, 77, 128} {
			piece := whole[at : at+size]
			first := xxh.Sum(1, piece)
			if again := xxh.Sum(1, strings.Clone(piece)); again != first {
				t.Errorf("Sum of %d bytes at %d: %d, and then %d", size, at, first, again)
			}
			checkSum(t, 1, piece)
		}
	}
	if whole != was {
		t.Error("Sum changed what it was given")
	}
}

func TestSumOfManyTextsAndSeeds(t *testing.T) { // 5.2, R1: none panics
	next := chain(57)
	for range 3000 {
		checkSum(t, next(), someBytes(next, int(next()>>40%90)))
	}
}

// sanity tells the first n of the bytes by which XXH64 is tested everywhere.
func sanity(n int) string {
	b, gen := make([]byte, n), uint64(2654435761)
	for i := range b {
		b[i] = byte(gen >> 56)
		gen *= 11400714785074694797
	}
	return string(b)
}

// Sums that XXH64 is known to have, with the seeds 0, 2654435761 and 2^64 - 1.
func TestSumIsXXH64(t *testing.T) { // 5.3
	for _, c := range []struct {
		size int
		want [3]uint64
	}{
		{0, [3]uint64{0xef46db3751d8e999, 0xac75fda2929b17ef, 0x298f4c84b24f5380}},
		{1, [3]uint64{0xe934a84adb052768, 0x5014607643a9b4c3, 0x8ba3328805e37c90}},
		{3, [3]uint64{0xff7e1959cb50794a, 0xaa8584e83660f7d1, 0xd98ff19e5346b786}},
		{4, [3]uint64{0x9136a0dca57457ee, 0xcaab286bd8e9fdb5, 0x159fbdb3fc3fc1d6}},
		{5, [3]uint64{0x9b046fb1397f09a5, 0x2af5249930f984ec, 0xbeb995d7ae545217}},
		{7, [3]uint64{0x6c83909a9f01ed25, 0xf98d03b1ad6f9293, 0x73bde04667ca6bf4}},
		{8, [3]uint64{0xcdbcf538e71d1348, 0xfe0c047a5353cdac, 0x568e81b1596e8283}},
		{11, [3]uint64{0x6345d5746f35da70, 0xeaa08a8c8be3cccf, 0x7d997df67ea39ef0}},
		{12, [3]uint64{0x0723bf50086ead9a, 0x8252819f4e506951, 0x3076e05b0ab6ece0}},
		{14, [3]uint64{0x8282dcc4994e35c8, 0xc3bd6bf63deb6df0, 0x8523c9ee6f9548ed}},
		{31, [3]uint64{0x299b39a290e6d783, 0xda673d5feb5c1d79, 0x6ed1061f61c686e5}},
		{32, [3]uint64{0x18b216492bb44b70, 0xb3f33bdf93ade409, 0x3a793d9020113c2a}},
		{33, [3]uint64{0x55c8dc3e578f5b59, 0xe92c292f64bc3071, 0x3e29b6e70f2543da}},
		{63, [3]uint64{0xa9efbe0fa0f3f4e7, 0x6c911fadb05b6fc2, 0x93b7c9e8ce6de24c}},
		{64, [3]uint64{0xef558f8acac2b5cd, 0xb5eeba99264cc44f, 0xd48294c0c6d5d9fd}},
		{65, [3]uint64{0xde0f20dc2631af7a, 0xd3f6ff3941e310ca, 0xd3366084a3fd665b}},
		{222, [3]uint64{0xb641ae8cb691c174, 0x20cb8ab7ae10c14a, 0x61920bef9b9a65ca}},
		{2367, [3]uint64{0xa82418ddec0ea581, 0xa36a93c18052673a, 0x14371c2901c92a60}},
	} {
		for i, seed := range []uint64{0, 2654435761, math.MaxUint64} {
			if got := xxh.Sum(seed, sanity(c.size)); got != c.want[i] {
				t.Errorf("Sum of seed %d and %d bytes = %#x, want %#x", seed, c.size, got, c.want[i])
			}
		}
	}
}

func TestSumOfKnownTexts(t *testing.T) { // 5.3
	for _, c := range []struct {
		s    string
		want uint64
	}{
		{"a", 0xd24ec4f1a98c6e5b}, {"abc", 0x44bc2cf5ad770999}, {"asdf", 0x415872f599cea71e},
		{"Call me Ishmael. Some years ago--never mind how long precisely-", 0x02a2e85470d6fd96},
	} {
		if got := xxh.Sum(0, c.s); got != c.want {
			t.Errorf("Sum(0, %q) = %#x, want %#x", c.s, got, c.want)
		}
	}
}
