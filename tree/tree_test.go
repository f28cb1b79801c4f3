package tree_test

import (
	"math"
	"slices"
	"strconv"
	"strings"
	"testing"

	"wringer/api"
	"wringer/chance"
	"wringer/tree"
)

var noClasses = []int{-1, -2, -64, -65, -128, math.MinInt32, math.MinInt, 65, 66, 96, 126, 127, 128, 129, 192, 256, 1 << 32, 1<<32 + 5, math.MaxInt32, math.MaxInt}

var noShifts = []int{3, 2, 1, 0, -1, -4, math.MinInt, 8, 9, 12, 64, 1<<32 + 4, math.MaxInt}

// digits are the seven bits of class, the highest first.
func digits(class int) string {
	s := strconv.FormatInt(int64(class), 2)
	return strings.Repeat("0", 7-len(s)) + s
}

// moved is the chance behind a bit, in the document's words.
func moved(p, bit, shift int) int {
	p, shift = min(max(p, 0), 4096), min(max(shift, 1), 12)
	part := int(math.Pow(2, float64(shift)))
	if bit == 0 {
		return p - p/part
	}
	return p + (4096-p)/part
}

// byHand has the chances of nodes that are known by the bits ahead of them.
type byHand struct {
	chances map[string]int
	shift   int
}

func newByHand(shift int) *byHand { return &byHand{map[string]int{}, shift} }

func (h *byHand) chance(ahead string) int {
	if p, is := h.chances[ahead]; is {
		return p
	}
	return 2048
}

func (h *byHand) behind(ahead string, bit int) {
	h.chances[ahead] = moved(h.chance(ahead), bit, h.shift)
}

// putByHand hands an encoder the bits one by one.
func putByHand(classes []int, shift int) string {
	x, h := chance.New(), newByHand(shift)
	for _, class := range classes {
		s := digits(class)
		for i := range s {
			bit := int(s[i] - '0')
			x.Bit(h.chance(s[:i]), bit)
			h.behind(s[:i], bit)
		}
	}
	return x.Bytes()
}

// getByHand has a decoder tell the bits one by one; that s is all of a Put is
// found by putting the classes anew.
func getByHand(s string, n, shift int) ([]int, api.Errno) {
	y, h := chance.From(s), newByHand(shift)
	var out []int
	for range n {
		told := ""
		for range 7 {
			bit, e := y.Bit(h.chance(told))
			if e != api.OK {
				return nil, e
			}
			h.behind(told, bit)
			told += strconv.Itoa(bit)
		}
		class, _ := strconv.ParseInt(told, 2, 0)
		if class > 64 {
			return nil, api.ErrForm
		}
		out = append(out, int(class))
	}
	if putByHand(out, shift) != s {
		return nil, api.ErrForm
	}
	return out, api.OK
}

// chain tells numbers that hang on nothing but seed.
func chain(seed uint64) func(below int) int {
	return func(below int) int {
		seed = seed*6364136223846793005 + 1442695040888963407
		return int(seed >> 20 % uint64(below))
	}
}

// row tells n classes: of all, of few, of mostly one, of the edges.
func row(next func(int) int, n int) []int {
	l, kind, own := make([]int, n), next(5), next(65)
	for i := range l {
		switch kind {
		case 0:
			l[i] = next(65)
		case 1:
			l[i] = next(4)
		case 2:
			l[i] = own
		case 3:
			l[i] = []int{0, 1, 63, 64}[next(4)]
		case 4:
			l[i] = own
			if next(20) == 0 {
				l[i] = next(65)
			}
		}
	}
	return l
}

// put tells the Put of what must be classes.
func put(t *testing.T, classes []int, shift int) string {
	t.Helper()
	s, e := tree.Put(classes, shift)
	if e != api.OK {
		t.Fatalf("Put(%v, %d) = %q, %d", classes, shift, s, e)
	}
	return s
}

func checkPut(t *testing.T, classes []int, shift int, want string) {
	t.Helper()
	if s, e := tree.Put(classes, shift); s != want || e != api.OK {
		t.Errorf("Put(%v, %d) = %q, %d, want %q", classes, shift, s, e, want)
	}
}

func checkNoPut(t *testing.T, classes []int, shift int) {
	t.Helper()
	if s, e := tree.Put(classes, shift); s != "" || e != api.ErrArg {
		t.Errorf("Put(%v, %d) = %q, %d, want ErrArg", classes, shift, s, e)
	}
}

func checkGet(t *testing.T, s string, n, shift int, want []int) {
	t.Helper()
	if l, e := tree.Get(s, n, shift); !slices.Equal(l, want) || e != api.OK {
		t.Errorf("Get(%q, %d, %d) = %v, %d, want %v", s, n, shift, l, e, want)
	}
}

func checkNoGet(t *testing.T, s string, n, shift int, want api.Errno) {
	t.Helper()
	if l, e := tree.Get(s, n, shift); len(l) != 0 || e != want {
		t.Errorf("Get(%q, %d, %d) = %v, %d, want error %d", s, n, shift, l, e, want)
	}
}

// sameAsByHand holds Get against what is told by hand, and tells the error.
func sameAsByHand(t *testing.T, s string, n, shift int) api.Errno {
	t.Helper()
	want, e := getByHand(s, n, shift)
	if e == api.OK {
		checkGet(t, s, n, shift, want)
	} else {
		checkNoGet(t, s, n, shift, e)
	}
	return e
}

func noughts(n int) string { return strings.Repeat("\x00", n) }

func TestNodesByHand(t *testing.T) { // 16.1
	for _, c := range []struct {
		class       int
		nodes, bits []int
	}{
		{0, []int{1, 2, 4, 8, 16, 32, 64}, []int{0, 0, 0, 0, 0, 0, 0}},
		{1, []int{1, 2, 4, 8, 16, 32, 64}, []int{0, 0, 0, 0, 0, 0, 1}},
		{2, []int{1, 2, 4, 8, 16, 32, 65}, []int{0, 0, 0, 0, 0, 1, 0}},
		{5, []int{1, 2, 4, 8, 16, 33, 66}, []int{0, 0, 0, 0, 1, 0, 1}},
		{32, []int{1, 2, 5, 10, 20, 40, 80}, []int{0, 1, 0, 0, 0, 0, 0}},
		{42, []int{1, 2, 5, 10, 21, 42, 85}, []int{0, 1, 0, 1, 0, 1, 0}},
		{63, []int{1, 2, 5, 11, 23, 47, 95}, []int{0, 1, 1, 1, 1, 1, 1}},
		{64, []int{1, 3, 6, 12, 24, 48, 96}, []int{1, 0, 0, 0, 0, 0, 0}},
	} {
		if nodes, bits := tree.Nodes(c.class); !slices.Equal(nodes, c.nodes) || !slices.Equal(bits, c.bits) {
			t.Errorf("Nodes(%d) = %v, %v, want %v, %v", c.class, nodes, bits, c.nodes, c.bits)
		}
	}
}

func TestNodesOfAllClasses(t *testing.T) { // 16.1
	for class := range 65 {
		nodes, bits := tree.Nodes(class)
		if len(nodes) != 7 || len(bits) != 7 {
			t.Fatalf("Nodes(%d) = %v, %v", class, nodes, bits)
		}
		node, number := 1, 0
		for i, bit := range bits {
			if nodes[i] != node {
				t.Errorf("node %d of %d is %d, want %d", i, class, nodes[i], node)
			}
			if bit != int(digits(class)[i]-'0') {
				t.Errorf("bit %d of %d is %d", i, class, bit)
			}
			node, number = node*2+bit, number*2+bit
		}
		if number != class {
			t.Errorf("the bits of %d are those of %d", class, number)
		}
	}
}

func TestNodesOfNoClass(t *testing.T) { // 16.1
	for _, class := range noClasses {
		if nodes, bits := tree.Nodes(class); len(nodes) != 0 || len(bits) != 0 {
			t.Errorf("Nodes(%d) = %v, %v, want none", class, nodes, bits)
		}
	}
}

// What is told is new, spare room too.
func TestNodesAreNew(t *testing.T) { // R3, R5
	for class := range 65 {
		nodes, bits := tree.Nodes(class)
		for i := range 7 {
			nodes[i], bits[i] = -9, -8
		}
		more, moreBits := append(nodes, -7, -7), append(bits, -6, -6)
		if !slices.Equal(more, append(slices.Repeat([]int{-9}, 7), -7, -7)) || !slices.Equal(moreBits, append(slices.Repeat([]int{-8}, 7), -6, -6)) {
			t.Fatalf("nodes and bits of %d share memory: %v, %v", class, more, moreBits)
		}
		again, againBits := tree.Nodes(class)
		if again[0] != 1 || len(again) != 7 || againBits[6] != class%2 || len(againBits) != 7 {
			t.Fatalf("Nodes(%d) behind writing into what it told: %v, %v", class, again, againBits)
		}
		nodes, bits = tree.Nodes(class)
		_ = append(nodes, slices.Repeat([]int{-5}, 9)...)
		if slices.Contains(bits, -5) {
			t.Fatalf("nodes of %d have room in their bits: %v", class, bits)
		}
	}
}

func TestMoveByHand(t *testing.T) { // 16.1
	for _, c := range []struct{ p, bit, shift, want int }{
		{2048, 1, 4, 2176}, {2048, 0, 4, 1920},
		{2048, 1, 5, 2112}, {2048, 0, 5, 1984},
		{2048, 1, 6, 2080}, {2048, 0, 6, 2016},
		{2048, 1, 7, 2064}, {2048, 0, 7, 2032},
		{2048, 1, 1, 3072}, {2048, 0, 1, 1024},
		{2048, 1, 11, 2049}, {2048, 0, 11, 2047},
		{2048, 1, 12, 2048}, {2048, 0, 12, 2048},
		{1000, 1, 4, 1193}, {1000, 0, 4, 938},
		{3, 1, 1, 2049}, {3, 0, 1, 2}, {1, 0, 1, 1}, {4095, 1, 1, 4095}, {4093, 1, 1, 4094},
		{0, 0, 4, 0}, {0, 0, 1, 0}, {0, 1, 1, 2048}, {0, 1, 4, 256}, {0, 1, 12, 1},
		{4096, 1, 4, 4096}, {4096, 1, 1, 4096}, {4096, 0, 1, 2048}, {4096, 0, 4, 3840}, {4096, 0, 12, 4095},
		{15, 0, 4, 15}, {16, 0, 4, 15}, {127, 0, 7, 127}, {128, 0, 7, 127},
		{4081, 1, 4, 4081}, {4080, 1, 4, 4081}, {3969, 1, 7, 3969}, {3968, 1, 7, 3969},
	} {
		if p := tree.Move(c.p, c.bit, c.shift); p != c.want {
			t.Errorf("Move(%d, %d, %d) = %d, want %d", c.p, c.bit, c.shift, p, c.want)
		}
	}
}

func TestMoveOfAllChances(t *testing.T) { // 16.1
	for p := range 4097 {
		for shift := 1; shift <= 12; shift++ {
			for bit := range 2 {
				if got := tree.Move(p, bit, shift); got != moved(p, bit, shift) {
					t.Fatalf("Move(%d, %d, %d) = %d, want %d", p, bit, shift, got, moved(p, bit, shift))
				}
			}
		}
	}
}

func TestWhatMoveIsGivenIsCut(t *testing.T) { // 16.1
	chances := map[int]int{0: 0, 4096: 4096, 1234: 1234}
	for _, p := range []int{-1, -2, -2048, -4096, math.MinInt32, math.MinInt + 1, math.MinInt} {
		chances[p] = 0
	}
	for _, p := range []int{4097, 4098, 8192, 1 << 31, 1<<32 + 7, math.MaxInt - 1, math.MaxInt} {
		chances[p] = 4096
	}
	shifts := map[int]int{1: 1, 2: 2, 11: 11, 12: 12}
	for _, shift := range []int{0, -1, -12, -63, math.MinInt32, math.MinInt} {
		shifts[shift] = 1
	}
	for _, shift := range []int{13, 14, 16, 63, 64, 65, 1 << 32, 1<<32 + 3, math.MaxInt} {
		shifts[shift] = 12
	}
	for p, ofP := range chances {
		for shift, ofShift := range shifts {
			for _, bit := range []int{0, 1} {
				if got, want := tree.Move(p, bit, shift), moved(ofP, bit, ofShift); got != want {
					t.Errorf("Move(%d, %d, %d) = %d, want %d", p, bit, shift, got, want)
				}
			}
		}
	}
}

func TestAnyBitButNoughtMovesUp(t *testing.T) { // 16.1
	for _, bit := range []int{1, -1, 2, -2, 3, 4, 256, 1 << 31, 1 << 32, math.MaxInt, math.MinInt} {
		for _, p := range []int{0, 1, 1000, 2048, 4095, 4096} {
			if got, want := tree.Move(p, bit, 4), moved(p, 1, 4); got != want {
				t.Errorf("Move(%d, %d, 4) = %d, want %d", p, bit, got, want)
			}
		}
	}
}

// By each shift a chance moves until what lacks has no part any more: never
// beyond 0 or Whole.
func TestMoveGoesTowardsWhatComes(t *testing.T) { // 16.1
	for shift := 1; shift <= 12; shift++ {
		up, down := 2048, 2048
		for range 60000 {
			above, below := tree.Move(up, 1, shift), tree.Move(down, 0, shift)
			if above < up || below > down || above != moved(up, 1, shift) || below != moved(down, 0, shift) {
				t.Fatalf("by %d: %d to %d, %d to %d", shift, up, above, down, below)
			}
			up, down = above, below
		}
		if least := 1<<shift - 1; down != min(least, 2048) || up != max(4096-least, 2048) {
			t.Errorf("by %d: at last %d and %d", shift, up, down)
		}
	}
}

// Seven even bits: low is what a bit 0 has below it, range what is left. Of the
// first 0 that is 0x7ffff800, of the others 0x40000000, 0x20000000 and so on;
// behind a first 1 it is 0x3ffff800, 0x20000000 and so on.
func TestPutOfOneClassByHand(t *testing.T) { // 16.2
	for shift := 4; shift <= 7; shift++ {
		checkPut(t, []int{0}, shift, "\x00\xfd\xff\xf8\x00")
		checkPut(t, []int{1}, shift, "\x00\xfb\xff\xf8\x00")
		checkPut(t, []int{2}, shift, "\x00\xf9\xff\xf8\x00")
		checkPut(t, []int{63}, shift, "\x00\x7f\xff\xf8\x00")
		checkPut(t, []int{64}, shift, "\x00\x7d\xff\xf8\x00")
	}
}

// times tells so many bits of one chance, each as the chance and the bit.
func times(n, p, bit int) [][2]int { return slices.Repeat([][2]int{{p, bit}}, n) }

// bytesOf tells Bytes of an encoder that took the bits.
func bytesOf(bits ...[][2]int) string {
	x := chance.New()
	for _, b := range slices.Concat(bits...) {
		x.Bit(b[0], b[1])
	}
	return x.Bytes()
}

// Each node has a chance of its own, and all classes move the same ones.
func TestPutOfMoreClassesByHand(t *testing.T) { // 16.2
	for _, c := range []struct {
		classes []int
		shift   int
		bits    [][2]int
	}{
		{[]int{0, 0}, 4, slices.Concat(times(7, 2048, 0), times(7, 1920, 0))},
		{[]int{0, 0}, 5, slices.Concat(times(7, 2048, 0), times(7, 1984, 0))},
		{[]int{0, 0}, 6, slices.Concat(times(7, 2048, 0), times(7, 2016, 0))},
		{[]int{0, 0, 0}, 7, slices.Concat(times(7, 2048, 0), times(7, 2032, 0), times(7, 2017, 0))},
		// they have the first node alone in common
		{[]int{0, 64}, 7, slices.Concat(times(7, 2048, 0), times(1, 2032, 1), times(6, 2048, 0))},
		{[]int{64, 0, 64}, 4, slices.Concat(
			times(1, 2048, 1), times(6, 2048, 0),
			times(1, 2176, 0), times(6, 2048, 0),
			times(1, 2040, 1), times(6, 1920, 0))},
		// they have all nodes in common
		{[]int{0, 1, 0}, 5, slices.Concat(
			times(7, 2048, 0),
			times(6, 1984, 0), times(1, 1984, 1),
			times(6, 1922, 0), times(1, 2050, 0))},
		// they have the first two in common
		{[]int{63, 1, 63}, 6, slices.Concat(
			times(1, 2048, 0), times(6, 2048, 1),
			times(1, 2016, 0), times(1, 2080, 0), times(4, 2048, 0), times(1, 2048, 1),
			times(1, 1985, 0), times(1, 2048, 1), times(5, 2080, 1))},
	} {
		checkPut(t, c.classes, c.shift, bytesOf(c.bits))
	}
}

func TestPutOfNone(t *testing.T) { // 16.2, R3
	for shift := 4; shift <= 7; shift++ {
		checkPut(t, nil, shift, noughts(5))
		checkPut(t, []int{}, shift, noughts(5))
	}
}

// An encoder is handed the bits one by one, with the chances of their nodes.
func TestPutOfRows(t *testing.T) { // 16.2
	next := chain(1)
	for i := range 300 {
		l, shift := row(next, i), 4+i%4
		checkPut(t, l, shift, putByHand(l, shift))
	}
	for class := range 65 {
		for shift := 4; shift <= 7; shift++ {
			checkPut(t, []int{class}, shift, putByHand([]int{class}, shift))
			checkPut(t, []int{class, class, 64 - class}, shift, putByHand([]int{class, class, 64 - class}, shift))
		}
	}
}

// A chance goes so far up and down that it is moved no more.
func TestPutOfLongRows(t *testing.T) { // 16.2, 16.3
	for shift := 4; shift <= 7; shift++ {
		for _, class := range []int{0, 31, 63, 64} {
			l := append(slices.Repeat([]int{class}, 3000), 64-class, class, 5)
			s := putByHand(l, shift)
			checkPut(t, l, shift, s)
			checkGet(t, s, len(l), shift, l)
		}
	}
}

// Put has no most: Get alone has.
func TestPutOfMoreThanABlock(t *testing.T) { // 16.2
	next := chain(2)
	for _, n := range []int{4095, 4096, 4097, 9000} {
		l := make([]int, n)
		for i := range l {
			l[i] = next(65)
		}
		s := putByHand(l, 6)
		checkPut(t, l, 6, s)
		if n <= 4096 {
			checkGet(t, s, n, 6, l)
		} else {
			checkNoGet(t, s, n, 6, api.ErrArg)
		}
	}
}

func TestPutOfNoClass(t *testing.T) { // 16.2, R4
	for _, class := range noClasses {
		for shift := 4; shift <= 7; shift++ {
			checkNoPut(t, []int{class}, shift)
			checkNoPut(t, []int{0, class}, shift)
			checkNoPut(t, []int{class, 0}, shift)
			checkNoPut(t, append(slices.Repeat([]int{64}, 500), class, 3), shift)
		}
	}
}

func TestPutByNoShift(t *testing.T) { // 16.2, R4
	for _, shift := range noShifts {
		checkNoPut(t, nil, shift)
		checkNoPut(t, []int{}, shift)
		checkNoPut(t, []int{0, 64}, shift)
		checkNoPut(t, []int{65}, shift)
	}
}

func TestGetOfPutIsTheClasses(t *testing.T) { // 16.3
	next := chain(3)
	for i := range 240 {
		l := row(next, i)
		for shift := 4; shift <= 7; shift++ {
			checkGet(t, put(t, l, shift), len(l), shift, l)
		}
	}
	for a := range 65 {
		for b := range 65 {
			l := []int{a, b}
			checkGet(t, put(t, l, 4+(a+b)%4), 2, 4+(a+b)%4, l)
		}
	}
}

// Of one class and of two all Puts are known: nothing else is one.
func TestGetTellsJustThePuts(t *testing.T) { // 16.2
	for shift := 4; shift <= 7; shift++ {
		one, two := map[string]int{}, map[string]int{}
		for a := range 65 {
			one[put(t, []int{a}, shift)] = a
			for b := range 65 {
				two[put(t, []int{a, b}, shift)] = a*65 + b
			}
		}
		if len(one) != 65 || len(two) != 65*65 {
			t.Fatal("there are two of one Put:", len(one), len(two))
		}
		next := chain(uint64(shift))
		for s := range two {
			b := []byte(s)
			b[1+next(len(b)-1)] += byte(1 + next(255))
			got, e := tree.Get(string(b), 2, shift)
			is, ok := two[string(b)]
			if ok != (e == api.OK) || ok && !slices.Equal(got, []int{is / 65, is % 65}) {
				t.Errorf("Get(%q, 2, %d) = %v, %d", b, shift, got, e)
			}
		}
		for first := range 256 {
			for second := range 256 {
				for _, tail := range []string{"\xf8\x00", "\x00\x00"} {
					s := string([]byte{0, byte(first), byte(second)}) + tail
					got, e := tree.Get(s, 1, shift)
					is, ok := one[s]
					if ok != (e == api.OK) || ok && got[0] != is {
						t.Errorf("Get(%q, 1, %d) = %v, %d", s, shift, got, e)
					}
				}
			}
		}
	}
}

func TestGetOfNone(t *testing.T) { // 16.2
	for shift := 4; shift <= 7; shift++ {
		checkGet(t, noughts(5), 0, shift, nil)
		for _, s := range []string{
			"", "\x00", noughts(4), noughts(6), noughts(9), "\x00\x00\x00\x00\x01", "\x01\x00\x00\x00\x00", "\x00\x80\x00\x00\x00",
			"\x00\xff\xff\xff\xff", "\xff\xff\xff\xff\xff", "\x00\xfd\xff\xf8\x00", "x",
		} {
			checkNoGet(t, s, 0, shift, api.ErrForm)
		}
	}
}

func TestGetOfNoNumber(t *testing.T) { // 16.2, R2
	l := []int{3, 64}
	for shift := 4; shift <= 7; shift++ {
		for _, n := range []int{-1, -2, -4096, math.MinInt32, math.MinInt, 4097, 4098, 8192, 1 << 32, 1<<32 + 2, math.MaxInt} {
			for _, s := range []string{"", noughts(5), put(t, l, shift), "\xff\xff\xff\xff\xff"} {
				checkNoGet(t, s, n, shift, api.ErrArg)
			}
		}
	}
}

func TestGetByNoShift(t *testing.T) { // 16.2, R2
	for _, shift := range noShifts {
		for _, n := range []int{0, 1, 2, 4096, -1, 4097, math.MaxInt} {
			for _, s := range []string{"", noughts(5), put(t, []int{3, 64}, 4), "\xff\xff\xff\xff\xff"} {
				checkNoGet(t, s, n, shift, api.ErrArg)
			}
		}
	}
}

func TestGetOfAWholeBlock(t *testing.T) { // 16.2, 16.3
	next := chain(4)
	l := make([]int, 4096)
	for i := range l {
		l[i] = next(65)
	}
	for shift := 4; shift <= 7; shift++ {
		s := put(t, l, shift)
		checkGet(t, s, 4096, shift, l)
		checkNoGet(t, s, 4097, shift, api.ErrArg)
		checkNoGet(t, s[:len(s)/2], 4096, shift, api.ErrMore)
		checkNoGet(t, s+"\x00", 4096, shift, api.ErrForm)
		checkNoGet(t, s, 4095, shift, api.ErrForm)
	}
}

// likeAClass are the bytes of bits that lead to any number of seven bits.
func likeAClass(number, shift int, ahead ...int) string {
	return putByHand(append(slices.Clone(ahead), number), shift)
}

func TestBitsThatLeadToNoClass(t *testing.T) { // 16.2
	for shift := 4; shift <= 7; shift++ {
		for number := range 128 {
			for _, ahead := range [][]int{nil, {0}, {64, 64}, {1, 2, 3, 63, 64, 0, 17}} {
				s := likeAClass(number, shift, ahead...)
				n := len(ahead) + 1
				if number < 65 {
					checkGet(t, s, n, shift, append(slices.Clone(ahead), number))
				} else {
					checkNoGet(t, s, n, shift, api.ErrForm)
				}
			}
		}
	}
}

// The seven bits come first: where one of them lacks, it is ErrMore, whatever
// they would lead to. Behind those of no class there is nothing to be asked.
func TestNoClassAndBytesThatLack(t *testing.T) { // 16.2, R2
	for shift := 4; shift <= 7; shift++ {
		// class 0, then six bits 1: by these alone more bytes are needed.
		s := likeAClass(127, shift, 0)
		short := s[:5]
		checkNoGet(t, s, 2, shift, api.ErrForm)
		checkNoGet(t, short, 2, shift, api.ErrMore)
		if e := sameAsByHand(t, short, 2, shift); e != api.ErrMore {
			t.Error("the test's own:", e)
		}
		// no byte lacks for the first 127, but many for what would be behind.
		for _, n := range []int{1, 2, 3, 100, 4096} {
			checkNoGet(t, noughts(5), n, shift, api.ErrForm)
		}
		for number := 65; number < 128; number++ {
			for _, ahead := range [][]int{nil, {0}, {64, 64}, {1, 2, 3, 63, 64, 0, 17}} {
				s := likeAClass(number, shift, ahead...)
				checkNoGet(t, s, len(ahead)+2, shift, api.ErrForm)
				checkNoGet(t, s, 4096, shift, api.ErrForm)
				for cut := range len(s) {
					sameAsByHand(t, s[:cut], len(ahead)+1, shift)
				}
			}
		}
	}
}

// A class' first bit needs five bytes.
func TestFewerThanFiveBytes(t *testing.T) { // 16.2
	for _, s := range []string{"", "\x00", "\x00\x7f", "\x00\x00\x00\x00", "\x01", "\xff\xff\xff\xff", "\x00\xff\xff\xff", "\x00\xfd\xff\xf8"} {
		for shift := 4; shift <= 7; shift++ {
			checkNoGet(t, s, 0, shift, api.ErrForm)
			checkNoGet(t, s, 1, shift, api.ErrMore)
			checkNoGet(t, s, 4096, shift, api.ErrMore)
		}
	}
}

func TestBytesThatNoBitIsOf(t *testing.T) { // 16.2
	for _, s := range []string{"\x01\x00\x00\x00\x00", "\xff\xff\xff\xff\xff", "\x00\xff\xff\xff\xff", "\x80\x00\x00\x00\x00\x00\x00"} {
		for shift := 4; shift <= 7; shift++ {
			for _, n := range []int{0, 1, 2, 4096} {
				checkNoGet(t, s, n, shift, api.ErrForm)
			}
		}
	}
}

// Where the last byte is missed by a bit, it is ErrMore; else there are none
// whose Put it is.
func TestBytesCutAtEachPlace(t *testing.T) { // 16.2
	next := chain(5)
	more, form := 0, 0
	for i := range 400 {
		l, shift := row(next, 1+i/10), 4+i%4
		s := put(t, l, shift)
		for cut := range len(s) {
			switch sameAsByHand(t, s[:cut], len(l), shift) {
			case api.ErrMore:
				more++
			case api.ErrForm:
				form++
			default:
				t.Errorf("Get(%q, %d, %d) is OK: cut at %d", s[:cut], len(l), shift, cut)
			}
		}
	}
	if more < 500 || form < 10 {
		t.Error("the test's own: ErrMore and ErrForm come", more, form)
	}
}

func TestBytesTooMany(t *testing.T) { // 16.2
	next := chain(6)
	for i := range 120 {
		l, shift := row(next, i/3), 4+i%4
		s := put(t, l, shift)
		for _, behind := range []string{"\x00", "\x01", "\xff", noughts(7), s, "x"} {
			checkNoGet(t, s+behind, len(l), shift, api.ErrForm)
		}
	}
}

func TestEachBitTurned(t *testing.T) { // 16.2
	next := chain(7)
	for i := range 60 {
		l, shift := row(next, i/2), 4+i%4
		s := put(t, l, shift)
		for at := range 8 * len(s) {
			b := []byte(s)
			b[at/8] ^= 1 << (at % 8)
			sameAsByHand(t, string(b), len(l), shift)
			if got, e := tree.Get(string(b), len(l), shift); e == api.OK && (slices.Equal(got, l) || put(t, got, shift) != string(b)) {
				t.Errorf("Get(%q, %d, %d) = %v: it is not the Put of these", b, len(l), shift, got)
			}
		}
	}
}

func TestFewerOrMoreClassesAsked(t *testing.T) { // 16.2
	next := chain(8)
	for i := range 80 {
		l, shift := row(next, i/2), 4+i%4
		s := put(t, l, shift)
		for n := range len(l) {
			checkNoGet(t, s, n, shift, api.ErrForm)
		}
		for n := len(l) + 1; n < len(l)+9; n++ {
			if e := sameAsByHand(t, s, n, shift); e == api.OK {
				t.Errorf("Get(%q, %d, %d) is OK", s, n, shift)
			}
		}
		sameAsByHand(t, s, 4096, shift)
	}
}

// Another shift has other chances: what it tells is another row, or none.
func TestGetByAnotherShift(t *testing.T) { // 16.2
	next := chain(9)
	for i := range 60 {
		l := row(next, 2+i)
		for shift := 4; shift <= 7; shift++ {
			s := put(t, l, shift)
			for other := 4; other <= 7; other++ {
				if e := sameAsByHand(t, s, len(l), other); (e == api.OK) != (s == putByHand(l, other)) {
					t.Errorf("what was put by %d is told by %d: error %d", shift, other, e)
				}
			}
		}
	}
}

func TestGetOfAnyBytes(t *testing.T) { // 16.2, R1
	next := chain(10)
	for i := range 4000 {
		b := make([]byte, next(40))
		for j := range b {
			b[j] = byte(next(256)) * byte(next(2))
		}
		if len(b) > 0 && next(9) > 0 {
			b[0] = 0
		}
		sameAsByHand(t, string(b), next(30), 4+i%4)
	}
}

func TestWhatIsHandedInStays(t *testing.T) { // R3
	next := chain(11)
	for i := range 40 {
		l, shift := row(next, i), 4+i%4
		room := append(slices.Clone(l), 1, 2, 3)
		was := slices.Clone(room)
		s := put(t, room[:len(l)], shift)
		if !slices.Equal(room, was) {
			t.Errorf("Put turned %v into %v", was, room)
		}
		for j := range room {
			room[j] = -1
		}
		checkPut(t, l, shift, s)
	}
	l := []int{5, 65, 7}
	checkNoPut(t, l, 4)
	if !slices.Equal(l, []int{5, 65, 7}) {
		t.Error("Put turned", l)
	}
}

func TestWhatIsToldIsNew(t *testing.T) { // R3, R5
	next := chain(12)
	for i := range 40 {
		l, shift := row(next, i), 4+i%4
		s := put(t, l, shift)
		one, e := tree.Get(s, len(l), shift)
		two, f := tree.Get(s, len(l), shift)
		if e != api.OK || f != api.OK {
			t.Fatal("Get:", e, f)
		}
		for j := range one {
			one[j] = -5
		}
		_ = append(one, -6, -6)
		if !slices.Equal(two, l) {
			t.Errorf("writing into one answer turned the other into %v", two)
		}
		checkGet(t, s, len(l), shift, l)
		checkPut(t, l, shift, s)
	}
}

// Each call begins anew, whatever came ahead of it.
func TestTheSameCallsTellTheSame(t *testing.T) { // R1, R5
	l := []int{9, 0, 64, 9, 9, 31}
	s := put(t, l, 5)
	for range 3 {
		for shift := 4; shift <= 7; shift++ {
			checkPut(t, l, shift, putByHand(l, shift))
		}
		checkNoPut(t, []int{9, 99}, 5)
		checkNoGet(t, s[:len(s)-3], len(l), 5, api.ErrMore)
		checkNoGet(t, s+"x", len(l), 5, api.ErrForm)
		checkGet(t, s, len(l), 5, l)
		checkPut(t, l, 5, s)
	}
}
