package sparse

import (
	"math"
	"slices"
	"strconv"
	"testing"

	"colophon/api"
)

// extremes are places and numbers that no list has.
var extremes = []int{-1, -2, -64, math.MinInt, math.MinInt + 1, math.MaxInt, math.MaxInt - 1}

func made(t *testing.T, n int, places []int) *Set {
	t.Helper()
	s, e := New(n, places)
	if e != api.OK || s == nil {
		t.Fatalf("New(%d, %d places): %v, %v", n, len(places), s, e)
	}
	return s
}

func loaded(t *testing.T, n, m int, high, low []uint64) *Set {
	t.Helper()
	s, e := From(n, m, high, low)
	if e != api.OK || s == nil {
		t.Fatalf("From(%d, %d): %v, %v", n, m, s, e)
	}
	return s
}

func refused(t *testing.T, name string, n, m int, high, low []uint64, want api.Errno) {
	t.Helper()
	if s, e := From(n, m, high, low); s != nil || e != want {
		t.Errorf("%s: From(%d, %d, %x, %x): %v, %v, not %v", name, n, m, high, low, s, e, want)
	}
}

// widthOf answers the low width as the chapter has it: by the digits of n / m.
func widthOf(n, m int) int {
	if n < m {
		return 0
	}
	return len(strconv.FormatInt(int64(n/m), 2)) - 1
}

// numbered answers words of the numbers of a width, bit by bit.
func numbered(width int, numbers []int) []uint64 {
	words := make([]uint64, (width*len(numbers)+63)/64)
	for i, v := range numbers {
		for j := range width {
			b := i*width + j
			words[b/64] |= uint64(v>>j&1) << (b % 64)
		}
	}
	return words
}

// laid answers the words that the chapter's section Words asks for.
func laid(n int, places []int) (high, low []uint64) {
	m := len(places)
	if m == 0 {
		return nil, nil
	}
	width := widthOf(n, m)
	group := int(math.Pow(2, float64(width)))
	ones := make([]int, m+(n-1)/group+1)
	lows := make([]int, m)
	for i, x := range places {
		ones[x/group+i] = 1
		lows[i] = x % group
	}
	return numbered(1, ones), numbered(max(width, 1), lows)
}

// check holds all that a list answers against its places, looked at one by one.
func check(t *testing.T, name string, s *Set, n int, places []int) {
	t.Helper()
	m := len(places)
	if s.Len() != m || s.Bound() != n {
		t.Fatalf("%s: Len %d, Bound %d, not %d, %d", name, s.Len(), s.Bound(), m, n)
	}
	below := 0
	for x := range n {
		has := below < m && places[below] == x
		if s.Rank(x) != below || s.Has(x) != has {
			t.Fatalf("%s, place %d: %d, %v, not %d, %v", name, x, s.Rank(x), s.Has(x), below, has)
		}
		if has {
			below++
		}
	}
	for i, x := range places {
		if s.At(i) != x {
			t.Fatalf("%s: At(%d): %d, not %d", name, i, s.At(i), x)
		}
	}
	checkOutside(t, name, s, n, m)
	checkWords(t, name, s, n, places)
}

// checkOutside asks below 0, at the ends and behind them.
func checkOutside(t *testing.T, name string, s *Set, n, m int) {
	t.Helper()
	for _, i := range append([]int{m, m + 1, m + 64, n + m, api.MaxInts + 1, 2 * api.MaxInts}, extremes...) {
		if s.At(i) != -1 {
			t.Fatalf("%s: At(%d) of %d: %d, not -1", name, i, m, s.At(i))
		}
	}
	for _, x := range append([]int{n, n + 1, n + 63, 2*n + 64, api.MaxInts, api.MaxInts + 1, 1 << 40}, extremes...) {
		want := m
		if x < 0 {
			want = 0
		}
		if s.Rank(x) != want || s.Has(x) {
			t.Fatalf("%s, place %d: %d, %v, not %d", name, x, s.Rank(x), s.Has(x), want)
		}
	}
}

func checkWords(t *testing.T, name string, s *Set, n int, places []int) {
	t.Helper()
	high, low := s.Words()
	wantHigh, wantLow := laid(n, places)
	if !slices.Equal(high, wantHigh) || !slices.Equal(low, wantLow) {
		t.Fatalf("%s: Words: %x, %x, not %x, %x", name, high, low, wantHigh, wantLow)
	}
}

// scattered answers a number of i whose bits look like no rule.
func scattered(i int) uint64 {
	x := uint64(i+1) * 0x9e3779b97f4a7c15
	x = (x ^ x>>30) * 0xbf58476d1ce4e5b9
	return x ^ x>>31
}

// pieces answers lists of places below n of many kinds, by their names; of few ones the low width is wide.
func pieces(n int) map[string][]int {
	kinds := map[string]func(x int) bool{
		"none":              func(x int) bool { return false },
		"all":               func(x int) bool { return true },
		"the first":         func(x int) bool { return x == 0 },
		"the last":          func(x int) bool { return x == n-1 },
		"the ends":          func(x int) bool { return x == 0 || x == n-1 },
		"one in the middle": func(x int) bool { return x == n/2 },
		"all but the first": func(x int) bool { return x != 0 },
		"all but the last":  func(x int) bool { return x != n-1 },
		"by turns":          func(x int) bool { return x%2 == 1 },
		"every third":       func(x int) bool { return x%3 == 0 },
		"the first half":    func(x int) bool { return x < n/2 },
		"the last half":     func(x int) bool { return x >= n/2 },
		"the first few":     func(x int) bool { return x < n/20+1 },
		"the last few":      func(x int) bool { return x >= n-n/20-1 },
		"few in a row":      func(x int) bool { return x >= n/3 && x < n/3+5 },
		"mixed":             func(x int) bool { return scattered(x)&1 == 1 },
		"few":               func(x int) bool { return scattered(x)%41 == 0 },
		"all but few":       func(x int) bool { return scattered(x)%37 != 0 },
	}
	lists := map[string][]int{}
	for name, is := range kinds {
		var l []int
		for x := range n {
			if is(x) {
				l = append(l, x)
			}
		}
		lists[name+" of "+strconv.Itoa(n)] = l
	}
	return lists
}

var bounds = []int{1, 2, 3, 7, 8, 9, 31, 32, 33, 63, 64, 65, 100, 127, 128, 129, 200, 511, 512, 513, 1000, 1500}

// subset answers the places below n that x has as bits.
func subset(n, x int) []int {
	var l []int
	for i := range n {
		if x>>i&1 == 1 {
			l = append(l, i)
		}
	}
	return l
}

// every answers each step-th place below n, from one on.
func every(n, first, step int) []int {
	var l []int
	for x := first; x < n; x += step {
		l = append(l, x)
	}
	return l
}

// P3.1

func TestNewOfBoundsThatMayNotBe(t *testing.T) {
	for _, n := range append([]int{api.MaxInts + 1, 2 * api.MaxInts}, extremes...) {
		for _, places := range [][]int{nil, {}, {0}, {0, 1, 2}, {-1}} {
			if s, e := New(n, places); s != nil || e != api.ErrArg {
				t.Errorf("New(%d, %v): %v, %v", n, places, s, e)
			}
		}
	}
}

func TestNewOfPlacesThatMayNotBe(t *testing.T) {
	for _, n := range []int{0, 1, 2, 5, 100, api.MaxInts} {
		for _, x := range append([]int{n, n + 1, n + 64, 1 << 40}, extremes...) {
			if s, e := New(n, []int{x}); s != nil || e != api.ErrArg {
				t.Errorf("New(%d, {%d}): %v, %v", n, x, s, e)
			}
		}
	}
	for _, places := range [][]int{
		{0, 0}, {3, 3}, {99, 99}, {1, 0}, {99, 98}, {99, 0}, {0, -1}, {-1, 0}, {-2, -1}, {-1, 5},
		{0, 100}, {99, 100}, {100, 101}, {5, 100, 6}, {0, 1, 1}, {0, 1, 0}, {0, 0, 1}, {1, 0, 2}, {2, 1, 0},
		{0, 1, 2, 3, 3}, {0, 1, 2, 3, 2}, {0, 1, 2, 3, 100}, {0, 1, math.MaxInt}, {math.MinInt, 0, 1}, {0, math.MinInt, 1},
		{0, 50, 50, 99}, {0, 50, 49, 99}, {5, 4, 3, 2, 1, 0},
	} {
		if s, e := New(100, places); s != nil || e != api.ErrArg {
			t.Errorf("New(100, %v): %v, %v", places, s, e)
		}
	}
	if s, e := New(3, []int{0, 1, 2, 3}); s != nil || e != api.ErrArg {
		t.Errorf("more places than the bound: %v, %v", s, e)
	}
}

func TestNewOfNoPlaces(t *testing.T) {
	for _, n := range []int{0, 1, 2, 63, 64, 65, 1000} {
		check(t, "nil", made(t, n, nil), n, nil)
		check(t, "empty", made(t, n, []int{}), n, nil)
	}
	s := made(t, api.MaxInts, nil)
	if s.Len() != 0 || s.Bound() != api.MaxInts || s.Rank(api.MaxInts) != 0 || s.Has(0) || s.At(0) != -1 {
		t.Errorf("of MaxInts: %d %d", s.Len(), s.Bound())
	}
	checkWords(t, "of MaxInts", s, api.MaxInts, nil)
}

func TestEveryListOfFewPlaces(t *testing.T) {
	for n := range 11 {
		for x := range 1 << n {
			places := subset(n, x)
			s := made(t, n, places)
			name := strconv.Itoa(x) + " in " + strconv.Itoa(n)
			check(t, name, s, n, places)
			high, low := s.Words()
			check(t, name+", loaded", loaded(t, n, len(places), high, low), n, places)
		}
	}
}

func TestNewKeepsAndChangesNothing(t *testing.T) {
	room := []int{3, 50, 51, 70, 80}
	places := room[:3]
	s := made(t, 100, places)
	if !slices.Equal(room, []int{3, 50, 51, 70, 80}) {
		t.Errorf("what was handed in: %v", room)
	}
	places[0], places[1], places[2] = 9, 8, 7
	check(t, "changed since", s, 100, []int{3, 50, 51})
}

func TestFromOfArgumentsThatMayNotBe(t *testing.T) {
	high, low := made(t, 4, []int{0, 1}).Words()
	// Words that fit nothing, too: ErrArg is named ahead of ErrForm.
	for _, words := range [][2][]uint64{{nil, nil}, {high, low}, {{1, 2, 3}, {4}}} {
		for _, n := range append([]int{api.MaxInts + 1, 2 * api.MaxInts}, extremes...) {
			for _, m := range append([]int{0, 1, 2, n}, extremes...) {
				refused(t, "the bound", n, m, words[0], words[1], api.ErrArg)
			}
		}
		for _, n := range []int{0, 1, 4, 100, api.MaxInts} {
			for _, m := range append([]int{n + 1, n + 2, 2*n + 64, api.MaxInts + 1}, extremes...) {
				refused(t, "the number", n, m, words[0], words[1], api.ErrArg)
			}
		}
	}
}

func TestFromOfNoPlaces(t *testing.T) {
	for _, n := range []int{0, 1, 2, 64, 65, 1000} {
		check(t, "nil", loaded(t, n, 0, nil, nil), n, nil)
		check(t, "empty", loaded(t, n, 0, []uint64{}, []uint64{}), n, nil)
		refused(t, "a high word", n, 0, []uint64{0}, nil, api.ErrForm)
		refused(t, "a low word", n, 0, nil, []uint64{0}, api.ErrForm)
		refused(t, "both", n, 0, []uint64{1}, []uint64{1}, api.ErrForm)
	}
	if s := loaded(t, api.MaxInts, 0, nil, nil); s.Len() != 0 || s.Bound() != api.MaxInts {
		t.Errorf("of MaxInts: %d %d", s.Len(), s.Bound())
	}
}

// TestFromOfAllWords hands in all words of so many bits, and one bit behind: just the Words of lists are taken.
func TestFromOfAllWords(t *testing.T) {
	for _, pair := range [][2]int{
		{1, 1}, {2, 1}, {2, 2}, {3, 1}, {3, 2}, {3, 3}, {4, 1}, {4, 2}, {4, 3}, {4, 4}, {5, 1}, {5, 2}, {5, 3}, {5, 4}, {5, 5},
		{6, 2}, {6, 3}, {6, 5}, {7, 1}, {7, 2}, {7, 3}, {8, 2}, {9, 2}, {9, 3}, {13, 3}, {17, 2}, {20, 2}, {33, 1}, {100, 1},
	} {
		n, m := pair[0], pair[1]
		lists := map[[2]uint64][]int{}
		for x := range chosen(n, m) {
			high, low := laid(n, x)
			lists[[2]uint64{high[0], low[0]}] = x
		}
		width := widthOf(n, m)
		highs := uint64(2) << (m + (n-1)>>width + 1)
		lows := uint64(2) << (m * max(1, width))
		taken := 0
		for h := range highs {
			for l := range lows {
				high, low := []uint64{h}, []uint64{l}
				places, ok := lists[[2]uint64{h, l}]
				if !ok {
					refused(t, "no list's", n, m, high, low, api.ErrForm)
					continue
				}
				check(t, strconv.FormatUint(h, 2), loaded(t, n, m, high, low), n, places)
				taken++
			}
		}
		if taken != len(lists) || taken == 0 {
			t.Errorf("%d of %d: %d of %d", m, n, taken, len(lists))
		}
	}
}

// chosen goes over all lists of m places below n.
func chosen(n, m int) func(yield func([]int) bool) {
	var walk func(list []int, from int, yield func([]int) bool) bool
	walk = func(list []int, from int, yield func([]int) bool) bool {
		if len(list) == m {
			return yield(slices.Clone(list))
		}
		for x := from; x < n; x++ {
			if !walk(append(list, x), x+1, yield) {
				return false
			}
		}
		return true
	}
	return func(yield func([]int) bool) { walk(nil, 0, yield) }
}

func TestFromTooFewOrTooManyWords(t *testing.T) {
	for _, n := range bounds {
		for name, places := range pieces(n) {
			m := len(places)
			high, low := laid(n, places)
			refused(t, name+", a high word more", n, m, append(slices.Clone(high), 0), low, api.ErrForm)
			refused(t, name+", a low word more", n, m, high, append(slices.Clone(low), 0), api.ErrForm)
			refused(t, name+", both more", n, m, append(slices.Clone(high), 0), append(slices.Clone(low), 0), api.ErrForm)
			refused(t, name+", a one behind", n, m, append(slices.Clone(high), 1), low, api.ErrForm)
			if m == 0 {
				continue
			}
			refused(t, name+", no high words", n, m, nil, low, api.ErrForm)
			refused(t, name+", no low words", n, m, high, nil, api.ErrForm)
			refused(t, name+", a high word less", n, m, high[:len(high)-1], low, api.ErrForm)
			refused(t, name+", a low word less", n, m, high, low[:len(low)-1], api.ErrForm)
			refused(t, name+", the first high word less", n, m, high[1:], low, api.ErrForm)
		}
	}
}

func TestFromABitBehind(t *testing.T) {
	for _, n := range bounds {
		for name, places := range pieces(n) {
			m := len(places)
			if m == 0 {
				continue
			}
			high, low := laid(n, places)
			width := widthOf(n, m)
			for b := m + (n-1)>>width + 1; b < 64*len(high); b++ {
				high[b/64] ^= 1 << (b % 64)
				refused(t, name+", high", n, m, high, low, api.ErrForm)
				high[b/64] ^= 1 << (b % 64)
			}
			for b := m * max(1, width); b < 64*len(low); b++ {
				low[b/64] ^= 1 << (b % 64)
				refused(t, name+", low", n, m, high, low, api.ErrForm)
				low[b/64] ^= 1 << (b % 64)
			}
			check(t, name, loaded(t, n, m, high, low), n, places)
		}
	}
}

func TestFromOneTooManyOrTooFew(t *testing.T) {
	for _, n := range bounds {
		for name, places := range pieces(n) {
			m := len(places)
			if m == 0 {
				continue
			}
			high, low := laid(n, places)
			for b := range m + (n-1)>>widthOf(n, m) + 1 {
				high[b/64] ^= 1 << (b % 64)
				refused(t, name+", bit "+strconv.Itoa(b), n, m, high, low, api.ErrForm)
				high[b/64] ^= 1 << (b % 64)
			}
		}
	}
}

func TestFromALowBitOfTheWidth0(t *testing.T) {
	for _, n := range []int{1, 3, 64, 65, 100} {
		for _, places := range [][]int{every(n, 0, 1), every(n, n/3, 1)} {
			m := len(places)
			if widthOf(n, m) != 0 {
				t.Fatalf("%d of %d", m, n)
			}
			high, low := laid(n, places)
			for i := range m {
				low[i/64] ^= 1 << (i % 64)
				refused(t, "low bit "+strconv.Itoa(i), n, m, high, low, api.ErrForm)
				low[i/64] ^= 1 << (i % 64)
			}
			check(t, "as it was", loaded(t, n, m, high, low), n, places)
		}
	}
}

func TestFromPlacesThatDoNotRise(t *testing.T) {
	// Of 3 below 100 the low width is 5; 50 and 51 stand in one group.
	high := []uint64{1<<0 | 1<<2 | 1<<3}
	lows := func(a, b, c uint64) []uint64 { return []uint64{a | b<<5 | c<<10} }
	check(t, "as it was", loaded(t, 100, 3, high, lows(3, 18, 19)), 100, []int{3, 50, 51})
	check(t, "the group's ends", loaded(t, 100, 3, high, lows(31, 0, 31)), 100, []int{31, 32, 63})
	refused(t, "equal", 100, 3, high, lows(3, 18, 18), api.ErrForm)
	refused(t, "equal noughts", 100, 3, high, lows(3, 0, 0), api.ErrForm)
	refused(t, "falling", 100, 3, high, lows(3, 19, 18), api.ErrForm)
	refused(t, "falling all", 100, 3, high, lows(3, 31, 0), api.ErrForm)
	refused(t, "the first two", 100, 3, []uint64{1<<0 | 1<<1 | 1<<3}, lows(7, 7, 9), api.ErrForm)
	// Of 4 below 4 the low width is 0, and there are eight high bits.
	refused(t, "twice 0", 4, 4, []uint64{0b1011 | 1<<5}, []uint64{0}, api.ErrForm)
	check(t, "all", loaded(t, 4, 4, []uint64{0b1010101}, []uint64{0}), 4, []int{0, 1, 2, 3})
}

func TestFromPlacesThatReachTheBound(t *testing.T) {
	// Of 3 below 100 there are seven high bits: the last one may be that of 96 to 99, or of 128 on.
	last := func(high int, low uint64) ([]uint64, []uint64) {
		return []uint64{1<<0 | 1<<1 | 1<<(high+2)}, []uint64{0 | 1<<5 | low<<10}
	}
	for low := range uint64(32) {
		high, lows := last(3, low)
		if low < 4 {
			check(t, "below", loaded(t, 100, 3, high, lows), 100, []int{0, 1, 96 + int(low)})
		} else {
			refused(t, "from the bound on", 100, 3, high, lows, api.ErrForm)
		}
		high, lows = last(4, low)
		refused(t, "a group behind", 100, 3, high, lows, api.ErrForm)
	}
	// Of one below 64 the low width is 6, and there are two high bits.
	check(t, "63", loaded(t, 64, 1, []uint64{1}, []uint64{63}), 64, []int{63})
	refused(t, "64", 64, 1, []uint64{2}, []uint64{0}, api.ErrForm)
	// Of the width 0.
	refused(t, "3 below 3", 3, 3, []uint64{0b100101}, []uint64{0}, api.ErrForm)
}

func TestFromKeepsAndChangesNothing(t *testing.T) {
	places := every(1000, 7, 9)
	high, low := laid(1000, places)
	highRoom, lowRoom := append(slices.Clone(high), 77), append(slices.Clone(low), 88)
	h, l := highRoom[:len(high)], lowRoom[:len(low)]
	s := loaded(t, 1000, len(places), h, l)
	if !slices.Equal(h, high) || !slices.Equal(l, low) || highRoom[len(high)] != 77 || lowRoom[len(low)] != 88 {
		t.Error("what was handed in has changed")
	}
	for i := range h {
		h[i] = math.MaxUint64
	}
	for i := range l {
		l[i] = math.MaxUint64
	}
	check(t, "changed since", s, 1000, places)
}

// P3.2

func TestPlaces(t *testing.T) {
	for _, n := range bounds {
		for name, places := range pieces(n) {
			s := made(t, n, places)
			check(t, name, s, n, places)
			high, low := s.Words()
			check(t, name+", loaded", loaded(t, n, len(places), high, low), n, places)
		}
	}
}

func TestLowWidths(t *testing.T) {
	// One place alone below each bound, so that the width goes from 0 to 16.
	for width := range 17 {
		for _, n := range []int{1 << width, 3 << width / 2, 2<<width - 1} {
			for _, x := range []int{0, n / 2, n - 1} {
				s := made(t, n, []int{x})
				_, low := s.Words()
				if len(low) != 1 || low[0] != uint64(x)&(1<<width-1) {
					t.Fatalf("%d below %d: %x", x, n, low)
				}
				check(t, strconv.Itoa(x), s, n, []int{x})
			}
		}
	}
}

// checkMany holds a list of many places against them, at the places and beside them.
func checkMany(t *testing.T, name string, s *Set, n int, places []int) {
	t.Helper()
	m := len(places)
	if s.Len() != m || s.Bound() != n {
		t.Fatalf("%s: Len %d, Bound %d, not %d, %d", name, s.Len(), s.Bound(), m, n)
	}
	checkOutside(t, name, s, n, m)
	checkWords(t, name, s, n, places)
	for j := range 20000 {
		i := j
		if m > 20000 { // the first ones, the last ones, and some of the others
			i = []int{j, m - 1 - j, int(scattered(j) % uint64(m))}[j%3]
		}
		if i >= m {
			break
		}
		x := places[i]
		if s.At(i) != x || s.Rank(x) != i || s.Rank(x+1) != i+1 || !s.Has(x) {
			t.Fatalf("%s, number %d: %d, %d, %d, %v, not %d", name, i, s.At(i), s.Rank(x), s.Rank(x+1), s.Has(x), x)
		}
		if s.Has(x+1) != (i+1 < m && places[i+1] == x+1) || s.Has(x-1) != (i > 0 && places[i-1] == x-1) {
			t.Fatalf("%s, beside number %d: %v, %v", name, i, s.Has(x-1), s.Has(x+1))
		}
	}
}

func TestMostPlaces(t *testing.T) {
	n := api.MaxInts
	lists := map[string][]int{
		"the first":                    {0},
		"the last":                     {n - 1},
		"the ends":                     {0, n - 1},
		"one":                          {12345},
		"every 1000th":                 every(n, 5, 1000),
		"by turns":                     every(n, 1, 2),
		"the first half, and one more": every(n/2+1, 0, 1),
		"the last half, and one more":  every(n, n/2-1, 1),
		"all":                          every(n, 0, 1),
		"all but the first":            every(n, 1, 1),
		"all but the last":             every(n-1, 0, 1),
		"the last thousand":            every(n, n-1000, 1),
	}
	for name, places := range lists {
		s := made(t, n, places)
		checkMany(t, name, s, n, places)
		high, low := s.Words()
		checkMany(t, name+", loaded", loaded(t, n, len(places), high, low), n, places)
		high[len(high)-1] |= 1 << 63 // the last bit, or one behind it: the last bit is always a nought
		if s, e := From(n, len(places), high, low); s != nil || e != api.ErrForm {
			t.Errorf("%s, the last bit: %v", name, e)
		}
	}
}

// TestAsManyHighBitsAsAListMayHave has as many high bits as MaxInts, and some more or less.
func TestAsManyHighBitsAsAListMayHave(t *testing.T) {
	n := api.MaxInts / 8 * 5 // so that of MaxInts - n places the low width is 0
	for _, more := range []int{-1, 0, 1, 65} {
		m := api.MaxInts - n + more
		name := strconv.Itoa(m) + " below " + strconv.Itoa(n)
		places := every(n, n-m, 1)
		s := made(t, n, places)
		checkMany(t, name, s, n, places)
		high, low := s.Words()
		if len(high) != (api.MaxInts+more+63)/64 {
			t.Fatalf("%s: %d high words", name, len(high))
		}
		checkMany(t, name+", loaded", loaded(t, n, m, high, low), n, places)
	}
}

func TestWordsAreNew(t *testing.T) {
	places := every(1000, 7, 9)
	s := made(t, 1000, places)
	high, low := s.Words()
	high, low = high[:cap(high)], low[:cap(low)]
	for i := range high {
		high[i] = math.MaxUint64
	}
	second, secondLow := s.Words()
	for i := range low {
		low[i] = math.MaxUint64
	}
	wantHigh, wantLow := laid(1000, places)
	if !slices.Equal(second, wantHigh) || !slices.Equal(secondLow, wantLow) {
		t.Errorf("%x, %x", second, secondLow)
	}
	check(t, "Words changed", s, 1000, places)
}

func TestNilSet(t *testing.T) {
	var s *Set
	if s.Len() != 0 || s.Bound() != 0 {
		t.Errorf("%d, %d", s.Len(), s.Bound())
	}
	for _, i := range append([]int{0, 1, 64, api.MaxInts}, extremes...) {
		if s.At(i) != -1 || s.Rank(i) != 0 || s.Has(i) {
			t.Errorf("%d: %d %d %v", i, s.At(i), s.Rank(i), s.Has(i))
		}
	}
	if high, low := s.Words(); len(high) != 0 || len(low) != 0 {
		t.Errorf("%x, %x", high, low)
	}
}

// The chapter's examples.

func TestExamples(t *testing.T) {
	s := made(t, 100, []int{3, 50, 51})
	high, low := s.Words()
	if !slices.Equal(high, []uint64{1<<0 | 1<<2 | 1<<3}) || !slices.Equal(low, []uint64{3 | 18<<5 | 19<<10}) {
		t.Errorf("%x, %x", high, low)
	}
	if s.Rank(51) != 2 {
		t.Errorf("Rank(51): %d", s.Rank(51))
	}
}
