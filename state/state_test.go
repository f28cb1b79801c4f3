package state_test

import (
	"math"
	"reflect"
	"strings"
	"testing"
	"unsafe"

	"wringer/state"
	"wringer/xxh"
)

var seeds = []uint64{0, 1, 5, 2654435761, 1 << 63, 7046029288634856825, math.MaxUint64 - 1, math.MaxUint64}

// The sizes that lie at the edges of a word, and of one and two steps of 32.
var sizes = []int{0, 1, 3, 4, 7, 8, 9, 15, 16, 31, 32, 33, 63, 64, 65, 95, 96, 97, 200}

// chain tells numbers that hang on nothing but seed.
func chain(seed uint64) func() uint64 {
	return func() uint64 {
		seed = seed*6364136223846793005 + 1442695040888963407
		return seed ^ seed>>29
	}
}

// someBytes tells n of them, of any kind.
func someBytes(next func() uint64, n int) string {
	b := make([]byte, n)
	for i := range b {
		b[i] = byte(next() >> 24)
	}
	return string(b)
}

// told is a State, and what the document says that it tells.
type told struct {
	*state.State
	seed uint64
	came string
}

func from(seed uint64) *told { return &told{state.New(seed), seed, ""} }

func (x *told) write(s string) {
	x.Write(s)
	x.came += s
}

// check asks twice: that it was asked changes nothing.
func (x *told) check(t *testing.T) {
	t.Helper()
	want := xxh.Sum(x.seed, x.came)
	for range 2 {
		if got := x.Sum(); got != want {
			t.Errorf("Sum of seed %d and %d bytes = %d, want %d", x.seed, len(x.came), got, want)
		}
		if got := x.Len(); got != len(x.came) {
			t.Errorf("Len = %d, want %d", got, len(x.came))
		}
	}
}

// checkPieces writes these, and looks behind each of them.
func checkPieces(t *testing.T, seed uint64, pieces ...string) {
	t.Helper()
	x := from(seed)
	x.check(t)
	for _, s := range pieces {
		x.write(s)
		x.check(t)
	}
}

// checkUnseen writes these, and looks only behind the last of them.
func checkUnseen(t *testing.T, seed uint64, pieces ...string) {
	t.Helper()
	x := from(seed)
	for _, s := range pieces {
		x.write(s)
	}
	x.check(t)
}

func cutBy(s string, size int) []string {
	var pieces []string
	for len(s) > size {
		pieces, s = append(pieces, s[:size]), s[size:]
	}
	return append(pieces, s)
}

func TestNew(t *testing.T) { // 6.1
	if n := state.New(0).Sum(); n != 17241709254077376921 {
		t.Errorf("Sum of New(0) = %d", n)
	}
	for _, seed := range seeds {
		from(seed).check(t)
	}
}

// Sums that XXH64 is known to have: these hang on no other package.
func TestSumOfKnownTexts(t *testing.T) { // 6.1
	const ishmael = "Call me Ishmael. Some years ago--never mind how long precisely-"
	for _, c := range []struct {
		s    string
		want uint64
	}{
		{"a", 0xd24ec4f1a98c6e5b}, {"abc", 0x44bc2cf5ad770999}, {"asdf", 0x415872f599cea71e}, {ishmael, 0x02a2e85470d6fd96},
	} {
		for at := range len(c.s) + 1 {
			x := state.New(0)
			x.Write(c.s[:at])
			x.Write(c.s[at:])
			if got := x.Sum(); got != c.want {
				t.Errorf("Sum of %q and %q = %#x, want %#x", c.s[:at], c.s[at:], got, c.want)
			}
		}
	}
}

func TestOnePiece(t *testing.T) { // 6.1
	next := chain(61)
	for size := range 140 {
		for _, seed := range seeds {
			checkPieces(t, seed, someBytes(next, size))
		}
	}
	for _, size := range []int{255, 256, 257, 1023, 4096, 4099, 100003} {
		checkPieces(t, next(), someBytes(next, size))
	}
}

// Nothing that comes is nothing, at the end of a step too.
func TestNothingComes(t *testing.T) { // 6.1
	next := chain(62)
	for _, seed := range seeds {
		checkPieces(t, seed, "", "")
		for _, size := range sizes {
			checkPieces(t, seed, "", someBytes(next, size), "", "", someBytes(next, size), "")
			checkUnseen(t, seed, "", someBytes(next, size), "", "", someBytes(next, size), "")
		}
	}
}

func TestTheLeastAndTheGreatestBytes(t *testing.T) { // 6.1, R6
	for _, c := range []string{"\x00", "\xff", "\x80", "\x7f", "\x01"} {
		for _, size := range sizes {
			s := strings.Repeat(c, size)
			checkPieces(t, 0, s, s, s)
			checkPieces(t, math.MaxUint64, s, s, s)
		}
	}
	checkPieces(t, 3, "k\xc3", "\xa4se, \u65e5\u672c, \xc3", "\x28 and more than thirty-two bytes of it")
}

// Every byte at every place counts, with all of its bits.
func TestEachByteAtEachPlace(t *testing.T) { // 6.1
	s := someBytes(chain(63), 79)
	for at := range len(s) {
		for _, c := range []byte{0, 1, 2, 4, 8, 16, 32, 64, 127, 128, 255} {
			checkUnseen(t, 9, s[:at], string([]byte{c}), s[at+1:])
		}
	}
}

// All that came counts, in its order, and the seed.
func TestOtherTextsHaveOtherSums(t *testing.T) { // 6.1
	s := someBytes(chain(64), 100)
	seen := map[uint64]string{}
	for name, pieces := range map[string][]string{
		"all": {s}, "turned": {s[50:], s[:50]}, "fewer": {s[:99]}, "more": {s, "\x00"}, "the last piece": {s[50:]},
		"the first piece": {s[:50]}, "twice": {s, s}, "none": {},
	} {
		for _, seed := range seeds {
			x := state.New(seed)
			for _, p := range pieces {
				x.Write(p)
			}
			if other, is := seen[x.Sum()]; is {
				t.Errorf("%s of seed %d has the sum of %s", name, seed, other)
			}
			seen[x.Sum()] = name
		}
	}
}

func TestCutAtEachPlace(t *testing.T) { // 6.2
	s := someBytes(chain(65), 333)
	for _, seed := range []uint64{0, 77, math.MaxUint64} {
		for at := range len(s) + 1 {
			checkPieces(t, seed, s[:at], s[at:])
			checkUnseen(t, seed, s[:at], s[at:])
		}
	}
}

// Each way to cut one and two steps of bytes, and what lies beside them, in
// two pieces, with or without some bytes ahead of and behind them.
func TestTwoPiecesThatFillSteps(t *testing.T) { // 6.2
	next := chain(66)
	for _, both := range []int{31, 32, 33, 63, 64, 65} {
		s := someBytes(next, both)
		for at := range both + 1 {
			for _, seed := range seeds {
				checkPieces(t, seed, s[:at], s[at:])
			}
			checkPieces(t, 2, s[:at], s[at:], "and more")
			checkPieces(t, 2, "ahead", s[:at], s[at:])
		}
	}
}

func TestCutAtTwoPlaces(t *testing.T) { // 6.2
	s := someBytes(chain(67), 130)
	for from := range len(s) + 1 {
		for to := from; to <= len(s); to++ {
			checkUnseen(t, 11, s[:from], s[from:to], s[to:])
		}
	}
}

func TestPiecesOfOneSize(t *testing.T) { // 6.2
	s := someBytes(chain(68), 700)
	for _, seed := range seeds {
		for size := 1; size <= 100; size++ {
			checkUnseen(t, seed, cutBy(s, size)...)
		}
	}
	for size := 1; size <= 100; size++ {
		checkPieces(t, 0, cutBy(s, size)...)
		checkPieces(t, math.MaxUint64, cutBy(s, size)...)
	}
}

// Each of the sizes behind each other, and behind both a third.
func TestPiecesOfTheEdges(t *testing.T) { // 6.2
	next := chain(69)
	for _, a := range sizes {
		for _, b := range sizes {
			for _, c := range sizes {
				checkPieces(t, uint64(a), someBytes(next, a), someBytes(next, b), someBytes(next, c))
			}
		}
	}
}

func TestPiecesOfAnySize(t *testing.T) { // 6.2
	next := chain(70)
	for range 300 {
		seed, s := next(), someBytes(next, int(next()>>40%900))
		want := xxh.Sum(seed, s)
		for range 4 {
			x := state.New(seed)
			for left := s; left != ""; {
				n := min(len(left), int(next()>>40%80))
				x.Write(left[:n])
				left = left[n:]
			}
			if x.Sum() != want || x.Len() != len(s) {
				t.Errorf("%d bytes: Sum = %d, Len = %d, want %d", len(s), x.Sum(), x.Len(), want)
			}
		}
	}
}

// That Sum or Len is asked for between two pieces changes nothing.
func TestAskingChangesNothing(t *testing.T) { // 6.1
	s := someBytes(chain(71), 150)
	for _, size := range []int{1, 7, 8, 31, 32, 33, 64, 65} {
		asked, unasked := state.New(4), state.New(4)
		for _, p := range cutBy(s, size) {
			was := *asked
			asked.Sum()
			asked.Len()
			asked.Sum()
			if *asked != was {
				t.Error("Sum or Len changed the State")
			}
			asked.Write(p)
			unasked.Write(p)
		}
		if asked.Sum() != unasked.Sum() || asked.Sum() != xxh.Sum(4, s) || asked.Len() != unasked.Len() {
			t.Errorf("pieces of %d: %d, and unasked %d", size, asked.Sum(), unasked.Sum())
		}
	}
}

func TestTheMethodsOfNoState(t *testing.T) { // 6.1
	var x *state.State
	for _, size := range sizes {
		x.Write(strings.Repeat("x", size))
		if x != nil || x.Sum() != 0 || x.Len() != 0 {
			t.Error("of nil:", x, x.Sum(), x.Len())
		}
	}
}

// One that New did not make is that of seed 0; none of its calls panics.
func TestAStateOfNoSeed(t *testing.T) { // 6.1, R1
	next := chain(72)
	for _, size := range sizes {
		x := told{State: new(state.State)}
		x.check(t)
		x.write(someBytes(next, size))
		x.check(t)
		x.write(someBytes(next, size))
		x.check(t)
	}
}

func TestStatesDoNotTouch(t *testing.T) { // 6.1, R5
	next := chain(73)
	for _, size := range sizes {
		all := []*told{from(5), from(5), from(6), from(math.MaxUint64)}
		for range 5 {
			for i, x := range all {
				x.write(someBytes(next, size+i))
				for _, other := range all {
					other.check(t)
				}
			}
		}
	}
}

func TestTheSameCallsTellTheSame(t *testing.T) { // R1, R5
	s := someBytes(chain(74), 300)
	for _, size := range []int{1, 8, 31, 32, 33, 77} {
		a, b := state.New(8), state.New(8)
		for _, p := range cutBy(s, size) {
			a.Write(p)
			b.Write(strings.Clone(p))
			if a.Sum() != b.Sum() || a.Len() != b.Len() {
				t.Errorf("pieces of %d: %d and %d", size, a.Sum(), b.Sum())
			}
		}
	}
}

// One that goes on from another's value does not touch it.
func TestAStateThatWasCopied(t *testing.T) { // R5
	next := chain(75)
	for _, size := range sizes {
		a := from(5)
		a.write(someBytes(next, size))
		value := *a.State
		b := &told{&value, a.seed, a.came}
		b.write(someBytes(next, 50))
		a.check(t)
		a.write(someBytes(next, 40))
		b.check(t)
		a.check(t)
	}
}

// The piece's bytes are other ones as soon as Write has answered.
func TestWhatIsWrittenIsNotKept(t *testing.T) { // 6.1, R3
	next := chain(76)
	for _, size := range sizes[1:] {
		x := from(3)
		for range 5 {
			s := someBytes(next, size)
			b := []byte(s)
			x.Write(unsafe.String(&b[0], len(b)))
			if string(b) != s {
				t.Error("Write changed what it was given")
			}
			clear(b)
			x.came += s
			x.check(t)
		}
	}
}

// A State has nothing that grows, nor anything that leads elsewhere, and room
// for 32 bytes: it keeps no more of those that came.
func TestNoMoreThan32BytesAreKept(t *testing.T) { // 6.1
	kept := 0
	var count func(reflect.Type, int)
	count = func(of reflect.Type, times int) {
		switch of.Kind() {
		case reflect.Struct:
			for i := range of.NumField() {
				count(of.Field(i).Type, times)
			}
		case reflect.Array:
			count(of.Elem(), times*of.Len())
		case reflect.Uint8:
			kept += times
		case reflect.Uint64, reflect.Int:
		default:
			t.Error("a State has", of)
		}
	}
	count(reflect.TypeFor[state.State](), 1)
	if kept > 32 {
		t.Errorf("a State has room for %d bytes", kept)
	}
	// The four, the seed, how many came: what is no byte does not keep them either.
	if words := (reflect.TypeFor[state.State]().Size() - uintptr(kept)) / 8; words > 6 {
		t.Errorf("a State has %d words beside the bytes", words)
	}
}
