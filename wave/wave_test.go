package wave

import (
	"math"
	"math/bits"
	"slices"
	"testing"

	"colophon/api"
	"colophon/pack"
	"colophon/rank"
)

// extremes are places of no row and numbers of no matrix.
var extremes = []int{
	-1, -2, -3, -256, -api.MaxInts, math.MinInt32, math.MinInt, math.MinInt + 1,
	api.MaxInts, api.MaxInts + 1, 1 << 24, math.MaxInt32, 1 << 32, 1<<32 + 1, math.MaxInt - 1, math.MaxInt,
}

// mosts are greatest numbers that may be: the least ones, powers of two and beside them, and the last ones.
var mosts = []int{0, 1, 2, 3, 4, 5, 7, 8, 9, 15, 16, 17, 127, 128, 255, 256, 258, 511, 512, 513, 65535, 65536, 1<<21 - 1, 1 << 21, 1<<21 + 1, api.MaxInts - 2, api.MaxInts - 1}

// row is numbers, none greater than most, by a name.
type row struct {
	name string
	l    []int
	most int
}

// numbers answers n numbers by a rule.
func numbers(n int, rule func(i int) int) []int {
	l := make([]int, n)
	for i := range l {
		l[i] = rule(i)
	}
	return l
}

// rising answers the numbers below n.
func rising(n int) []int {
	return numbers(n, func(i int) int { return i })
}

// falling answers the numbers below n, the greatest first.
func falling(n int) []int {
	return numbers(n, func(i int) int { return n - 1 - i })
}

// scattered answers n numbers below bound that look like no rule.
func scattered(n, bound int, seed uint64) []int {
	x := seed
	return numbers(n, func(int) int {
		x = x*6364136223846793005 + 1442695040888963407
		return int((x >> 33) % uint64(bound))
	})
}

// with answers l with x at this place.
func with(l []int, at, x int) []int {
	k := slices.Clone(l)
	k[at] = x
	return k
}

// withRoom answers a list like l, with a spare room filled by fill.
func withRoom(l []int, fill int) []int {
	k := make([]int, len(l), len(l)+5)
	copy(k, l)
	spoil(k[len(k):cap(k)], fill)
	return k
}

// spoil lays x everywhere in l, its spare room too.
func spoil[T any](l []T, x T) {
	l = l[:cap(l)]
	for i := range l {
		l[i] = x
	}
}

// every calls f with each list of n numbers below bound.
func every(n, bound int, f func(l []int)) {
	l := make([]int, n)
	for {
		f(l)
		i := 0
		for ; i < n && l[i] == bound-1; i++ {
			l[i] = 0
		}
		if i == n {
			return
		}
		l[i]++
	}
}

// shortRows calls f with each short row and a greatest number that may be.
func shortRows(f func(r row)) {
	for _, x := range []struct{ n, most int }{
		{0, 0}, {1, 0}, {2, 0}, {5, 0}, {1, 1}, {2, 1}, {3, 1}, {4, 1}, {5, 1}, {6, 1}, {7, 1},
		{1, 2}, {2, 2}, {3, 2}, {4, 2}, {5, 2}, {1, 3}, {2, 3}, {3, 3}, {4, 3}, {1, 4}, {2, 4}, {3, 4}, {1, 6}, {2, 7}, {3, 7}, {2, 8}, {1, 16},
	} {
		every(x.n, x.most+1, func(l []int) { f(row{"short", l, x.most}) })
	}
}

// longRows answers rows of many lengths and kinds: lengths within a word of bits, at its end, on both sides of where some words end.
func longRows() []row {
	var all []row
	for _, n := range []int{1, 2, 9, 63, 64, 65, 129, 511, 512, 513, 1100} {
		for _, most := range []int{0, 1, 2, 3, 4, 7, 8, 255, 258, 511, 512, api.MaxInts - 1} {
			all = append(all,
				row{"scattered", scattered(n, most+1, uint64(n+most)), most},
				row{"few unlike", numbers(n, func(i int) int { return i * i % 3 * most / 2 }), most},
			)
		}
		all = append(all,
			row{"noughts", make([]int, n), 300}, row{"the greatest", slices.Repeat([]int{300}, n), 300}, row{"the greatest of all", slices.Repeat([]int{api.MaxInts - 1}, n), api.MaxInts - 1},
			row{"rising", rising(n), n - 1}, row{"falling", falling(n), n - 1}, row{"falling, with room above", falling(n), 2 * n},
			row{"powers of two", numbers(n, func(i int) int { return 1 << (i % 22) }), api.MaxInts - 1}, row{"beside powers of two", numbers(n, func(i int) int { return 1<<(i%22) - 1 }), 1 << 21},
			row{"runs", numbers(n, func(i int) int { return i / 40 }), n / 40}, row{"one apart", with(make([]int, n), n/2, 37), 40}, row{"one nought", with(slices.Repeat([]int{40}, n), n/2, 0), 40},
		)
	}
	return all
}

// widthBy tells by layer 1's words the least width from 1 on of which most is a number.
func widthBy(most int) int {
	w := 1
	for most >= 1<<w {
		w++
	}
	return w
}

// mayBeBy tells by the chapter's words whether New makes a matrix of these.
func mayBeBy(l []int, most int) bool {
	return most >= 0 && most <= api.MaxInts-1 && len(l) <= api.MaxInts && !slices.ContainsFunc(l, func(x int) bool { return x < 0 || x > most })
}

// levelsBy answers by the chapter's words the levels of a row of numbers below 2^w.
func levelsBy(l []int, w int) [][]bool {
	levels := make([][]bool, w)
	stand := slices.Clone(l)
	for k := range w {
		bit := func(x int) int { return x / (1 << (w - 1 - k)) % 2 }
		for _, x := range stand {
			levels[k] = append(levels[k], bit(x) == 1)
		}
		slices.SortStableFunc(stand, func(x, y int) int { return bit(x) - bit(y) })
	}
	return levels
}

// rankBy tells by the chapter's words how many of the numbers ahead of i are c.
func rankBy(l []int, c, i int) int {
	n := 0
	for at, x := range l {
		if at < i && x == c {
			n++
		}
	}
	return n
}

// selectBy tells by the chapter's words where the c of number k is.
func selectBy(l []int, c, k int) int {
	for at, x := range l {
		if x == c && k == 0 {
			return at
		}
		if x == c {
			k--
		}
	}
	return -1
}

// rangeBy answers the numbers from a on, ahead of b, in order.
func rangeBy(l []int, a, b int) []int {
	var in []int
	for at, x := range l {
		if at >= a && at < b {
			in = append(in, x)
		}
	}
	slices.Sort(in)
	return in
}

// quantileBy tells what stands at k of a range in order.
func quantileBy(in []int, k int) int {
	if k < 0 || k >= len(in) {
		return -1
	}
	return in[k]
}

// belowBy tells how many of a range are less than c.
func belowBy(in []int, c int) int {
	n := 0
	for _, x := range in {
		if x < c {
			n++
		}
	}
	return n
}

// distinctBy answers the numbers of a range in order, each once, with how often it is there.
func distinctBy(in []int) []api.Pair {
	var l []api.Pair
	for i, x := range in {
		if i == 0 || x != in[i-1] {
			l = append(l, api.Pair{Symbol: x})
		}
		l[len(l)-1].Count++
	}
	return l
}

// made answers the matrix of a row.
func made(t *testing.T, l []int, most int) *Matrix {
	t.Helper()
	m, e := New(l, most)
	if e != api.OK || m == nil {
		t.Fatalf("New of %d numbers, %d the greatest: %v, %v", len(l), most, m != nil, e)
	}
	return m
}

// refused holds that New refuses these.
func refused(t *testing.T, l []int, most int) {
	t.Helper()
	if m, e := New(l, most); m != nil || e != api.ErrArg {
		t.Errorf("New of %d numbers, %d the greatest: %v, %v", len(l), most, m != nil, e)
	}
}

// bitsOf answers the bits of a list of layer 2.
func bitsOf(v *rank.Vec) []bool {
	var l []bool
	for i := range v.Len() {
		l = append(l, v.At(i))
	}
	return l
}

// checkLevels holds Len and Levels against the chapter's words.
func checkLevels(t *testing.T, r row, m *Matrix) {
	t.Helper()
	w := widthBy(r.most)
	levels := m.Levels()
	if m.Len() != len(r.l) || len(levels) != w {
		t.Fatalf("%s: %d numbers below %d: Len %d, %d levels, not %d", r.name, len(r.l), r.most+1, m.Len(), len(levels), w)
	}
	for k, want := range levelsBy(r.l, w) {
		if levels[k].Len() != len(r.l) || !slices.Equal(bitsOf(levels[k]), want) {
			t.Fatalf("%s: %v below %d: level %d: %v, not %v", r.name, few(r.l), r.most+1, k, bitsOf(levels[k]), want)
		}
	}
}

// few answers the first numbers of l, so that a fault's text stays short.
func few(l []int) []int {
	return l[:min(len(l), 20)]
}

// checkPlaces holds At, Rank and Select against the chapter's words, of these numbers, places and counts.
func checkPlaces(t *testing.T, r row, m *Matrix, cs, is []int) {
	t.Helper()
	for _, i := range is {
		want := -1
		if i >= 0 && i < len(r.l) {
			want = r.l[i]
		}
		if got := m.At(i); got != want {
			t.Fatalf("%s: %v below %d: At(%d): %d, not %d", r.name, few(r.l), r.most+1, i, got, want)
		}
		for _, c := range cs {
			if got, want := m.Rank(c, i), rankBy(r.l, c, i); got != want {
				t.Fatalf("%s: %v below %d: Rank(%d, %d): %d, not %d", r.name, few(r.l), r.most+1, c, i, got, want)
			}
			if got, want := m.Select(c, i), selectBy(r.l, c, i); got != want {
				t.Fatalf("%s: %v below %d: Select(%d, %d): %d, not %d", r.name, few(r.l), r.most+1, c, i, got, want)
			}
		}
	}
}

// checkRange holds Quantile, Below and Distinct of a range against the chapter's words, of these counts and numbers.
func checkRange(t *testing.T, r row, m *Matrix, a, b int, ks, cs []int) {
	t.Helper()
	in := rangeBy(r.l, a, b)
	for _, k := range ks {
		if got, want := m.Quantile(a, b, k), quantileBy(in, k); got != want {
			t.Fatalf("%s: %v below %d: Quantile(%d, %d, %d): %d, not %d", r.name, few(r.l), r.most+1, a, b, k, got, want)
		}
	}
	for _, c := range cs {
		if got, want := m.Below(a, b, c), belowBy(in, c); got != want {
			t.Fatalf("%s: %v below %d: Below(%d, %d, %d): %d, not %d", r.name, few(r.l), r.most+1, a, b, c, got, want)
		}
	}
	if got, want := m.Distinct(a, b), distinctBy(in); !slices.Equal(got, want) {
		t.Fatalf("%s: %v below %d: Distinct(%d, %d): %v, not %v", r.name, few(r.l), r.most+1, a, b, got, want)
	}
}

// ends answers numbers about which a matrix may be asked: the least and greatest ones, those beside 2^w, and these.
func ends(r row, more ...int) []int {
	w := widthBy(r.most)
	l := append([]int{-1, 0, 1, r.most - 1, r.most, r.most + 1, 1<<w - 1, 1 << w, 1<<w + 1, math.MinInt, math.MaxInt}, more...)
	slices.Sort(l)
	return slices.Compact(l)
}

// spots answers places and counts about which a row may be asked: the first and last ones, one beside them, and these.
func spots(n int, more ...int) []int {
	l := append([]int{-1, 0, 1, n / 2, n - 1, n, n + 1, math.MinInt, math.MaxInt}, more...)
	slices.Sort(l)
	return slices.Compact(l)
}

// check holds all answers against the chapter's words: of short rows at each place, number and range.
func check(t *testing.T, r row, m *Matrix) {
	t.Helper()
	checkLevels(t, r, m)
	n := len(r.l)
	if n <= 8 && r.most <= 16 {
		cs, is := ends(r, rising(r.most+1)...), spots(n, rising(n)...)
		checkPlaces(t, r, m, cs, is)
		for _, a := range is {
			for _, b := range is {
				checkRange(t, r, m, a, b, is, cs)
			}
		}
		return
	}
	cs := ends(r, r.l[0], r.l[n/2], r.l[n-1], r.l[n/3]+1, r.l[n/4]-1)
	is := spots(n, n/3, n/3+1, min(n, 64), min(n, 512), 63)
	checkPlaces(t, r, m, cs, is)
	for _, a := range is {
		for _, b := range is {
			size := max(0, min(b, n)-max(a, 0))
			checkRange(t, r, m, a, b, spots(size), cs)
		}
	}
}

// P13.1

func TestNewOfEachWidth(t *testing.T) {
	for _, most := range mosts {
		for _, l := range [][]int{nil, {}, make([]int, 0, 3), {0}, {most}, {most / 2}, {most, 0}, {0, most, most / 2, most}} {
			r := row{"width", l, most}
			m := made(t, l, most)
			checkLevels(t, r, m)
			checkPlaces(t, r, m, ends(r, most/2), spots(len(l)))
			checkRange(t, r, m, math.MinInt, math.MaxInt, spots(len(l)), ends(r, most/2))
		}
	}
}

func TestNewRefusesOtherMosts(t *testing.T) {
	for _, most := range extremes { // none of which is from 0 to MaxInts - 1
		for _, l := range [][]int{nil, {}, {0}, {1}, {0, 0, 0}, {-1}, {most}, {api.MaxInts - 1}} {
			refused(t, l, most)
		}
	}
	for _, most := range []int{0, api.MaxInts - 1} {
		made(t, nil, most)
		made(t, []int{most}, most)
	}
}

func TestNewRefusesOtherNumbers(t *testing.T) {
	for _, most := range mosts {
		for _, n := range []int{1, 2, 3, 65} {
			l := scattered(n, most+1, 1)
			for _, at := range []int{0, n / 2, n - 1} {
				made(t, with(l, at, 0), most)
				made(t, with(l, at, most), most)
				// Those between most and 2^w are refused as well, though the levels would hold them.
				for _, x := range append([]int{most + 1, 1<<widthBy(most) - 1, 1 << widthBy(most)}, extremes...) {
					if x != most {
						refused(t, with(l, at, x), most)
					}
				}
			}
		}
	}
}

func TestNewOfShortListsHeldAgainstTheWords(t *testing.T) {
	for n := range 4 {
		every(n, 9, func(l []int) {
			l = numbers(n, func(i int) int { return l[i] - 2 })
			for most := -2; most < 8; most++ {
				if mayBeBy(l, most) {
					checkLevels(t, row{"short", l, most}, made(t, l, most))
				} else {
					refused(t, l, most)
				}
			}
		})
	}
}

func TestNewOfAsManyAsMayBe(t *testing.T) {
	l := make([]int, api.MaxInts+1)
	for _, most := range []int{0, 1, api.MaxInts - 1} {
		refused(t, l, most)
	}
	l[api.MaxInts-1] = 1
	m := made(t, l[:api.MaxInts], 1)
	if m.Len() != api.MaxInts || len(m.Levels()) != 1 || m.Levels()[0].Len() != api.MaxInts || m.Levels()[0].Ones() != 1 {
		t.Errorf("%d numbers, %d levels", m.Len(), len(m.Levels()))
	}
	if m.At(api.MaxInts-1) != 1 || m.At(api.MaxInts-2) != 0 || m.At(api.MaxInts) != -1 || m.Rank(0, math.MaxInt) != api.MaxInts-1 || m.Select(1, 0) != api.MaxInts-1 || m.Select(0, api.MaxInts-2) != api.MaxInts-2 || m.Select(0, api.MaxInts-1) != -1 {
		t.Error("the last ones")
	}
	if d := m.Distinct(-1, math.MaxInt); !slices.Equal(d, []api.Pair{{Symbol: 0, Count: api.MaxInts - 1}, {Symbol: 1, Count: 1}}) {
		t.Errorf("%v", d)
	}
	l[api.MaxInts-1] = 2
	refused(t, l[:api.MaxInts], 1)
}

func TestLevelsWrittenOut(t *testing.T) {
	for _, x := range []struct {
		l      []int
		most   int
		levels []string
	}{
		{nil, 0, []string{""}}, {nil, 1, []string{""}}, {nil, 2, []string{"", ""}}, {nil, 4, []string{"", "", ""}},
		{[]int{0}, 0, []string{"0"}}, {[]int{0, 0, 0}, 0, []string{"000"}}, {[]int{0, 0}, 4, []string{"00", "00", "00"}},
		{[]int{0}, 1, []string{"0"}}, {[]int{1}, 1, []string{"1"}}, {[]int{1, 0, 1, 1, 0}, 1, []string{"10110"}},
		{[]int{2}, 2, []string{"1", "0"}}, {[]int{1}, 2, []string{"0", "1"}}, {[]int{2, 1, 2, 0}, 2, []string{"1010", "1000"}}, {[]int{2, 1, 2, 0}, 3, []string{"1010", "1000"}}, {[]int{2, 1, 2, 0}, 4, []string{"0000", "1010", "1000"}},
		{[]int{0, 1, 2, 3}, 3, []string{"0011", "0101"}}, {[]int{3, 2, 1, 0}, 3, []string{"1100", "1010"}}, {[]int{1, 3, 0, 2}, 3, []string{"0101", "1010"}},
		{[]int{5, 0, 3, 5, 1, 3, 3, 7, 0}, 7, []string{"100100010", "010110001", "010111111"}},
		{[]int{7, 6, 5, 4, 3, 2, 1, 0}, 7, []string{"11110000", "11001100", "10101010"}},
		{[]int{8, 0}, 8, []string{"10", "00", "00", "00"}}, {[]int{5, 8, 10}, 15, []string{"011", "100", "010", "010"}},
	} {
		m := made(t, x.l, x.most)
		var got []string
		for _, v := range m.Levels() {
			s := ""
			for _, one := range bitsOf(v) {
				if one {
					s += "1"
				} else {
					s += "0"
				}
			}
			got = append(got, s)
		}
		if !slices.Equal(got, x.levels) {
			t.Errorf("%v below %d: %q, not %q", x.l, x.most+1, got, x.levels)
		}
	}
}

func TestLevelsAreAsManyAsTheWidthOfMost(t *testing.T) {
	for _, most := range mosts {
		w := pack.Width(uint64(most))
		if w != widthBy(most) || w != max(1, bits.Len(uint(most))) {
			t.Fatalf("the width of %d: %d", most, w)
		}
		if got := len(made(t, nil, most).Levels()); got != w {
			t.Errorf("%d levels of %d, not %d", got, most, w)
		}
	}
}

func TestWhatMayBeGreaterLaysNoughtsAhead(t *testing.T) {
	l := scattered(100, 8, 3)
	m := made(t, l, 7)
	for _, most := range []int{8, 15, 16, 511, api.MaxInts - 1} {
		greater := made(t, l, most)
		levels := greater.Levels()
		ahead := len(levels) - 3
		for k, v := range levels {
			if k < ahead && v.Ones() != 0 || k >= ahead && !slices.Equal(bitsOf(v), bitsOf(m.Levels()[k-ahead])) {
				t.Errorf("%d the greatest: level %d", most, k)
			}
		}
	}
}

// All of P13.1 to P13.3 of many rows.

func TestEveryShortRow(t *testing.T) {
	shortRows(func(r row) { check(t, r, made(t, r.l, r.most)) })
}

func TestLongRows(t *testing.T) {
	for _, r := range longRows() {
		check(t, r, made(t, r.l, r.most))
	}
}

// turned answers the lowest 22 bits of x * by: if by is odd, another number of each number below MaxInts.
func turned(x, by int) int {
	return x * by & (api.MaxInts - 1)
}

func TestEachNumberThatMayBe(t *testing.T) {
	const by = 2654435761
	back := 1 // by * back is 1 of 22 bits
	for range 22 {
		back = turned(back, 2-turned(by, back))
	}
	if turned(by, back) != 1 {
		t.Fatal(back)
	}
	const n = api.MaxInts
	m := made(t, numbers(n, func(i int) int { return turned(i, by) }), n-1)
	for x := 0; x < n; x += 997 {
		at := turned(x, back)
		if m.At(x) != turned(x, by) || m.Select(x, 0) != at || m.Select(x, 1) != -1 || m.Rank(x, at) != 0 || m.Rank(x, at+1) != 1 || m.Rank(x, n) != 1 {
			t.Fatalf("%d: %d %d %d %d", x, m.At(x), m.Select(x, 0), m.Rank(x, at), m.Rank(x, at+1))
		}
		if m.Quantile(0, n, x) != x || m.Below(0, n, x) != x || m.Quantile(math.MinInt, math.MaxInt, n-1-x) != n-1-x {
			t.Fatalf("%d: %d, %d", x, m.Quantile(0, n, x), m.Below(0, n, x))
		}
	}
	if m.Quantile(0, n, n) != -1 || m.Below(0, n, n) != n || m.Rank(n, n) != 0 || m.Select(n, 0) != -1 || m.At(n) != -1 {
		t.Error("the last ones")
	}
	r := row{"each", numbers(1000, func(i int) int { return turned(n-1000+i, by) }), n - 1}
	if d := m.Distinct(n-1000, n); !slices.Equal(d, distinctBy(rangeBy(r.l, 0, 1000))) {
		t.Error("Distinct of the last thousand")
	}
	d := m.Distinct(0, n)
	if len(d) != n {
		t.Fatalf("%d unlike ones", len(d))
	}
	for x, p := range d {
		if p.Symbol != x || p.Count != 1 {
			t.Fatalf("%d: %v", x, p)
		}
	}
}

// P13.2

func TestAtRankAndSelectWrittenOut(t *testing.T) {
	l := []int{5, 0, 3, 5, 1, 3, 3, 6, 0}
	m := made(t, l, 6)
	for i, x := range []int{5, 0, 3, 5, 1, 3, 3, 6, 0, -1, -1} {
		if m.At(i) != x {
			t.Errorf("At(%d): %d, not %d", i, m.At(i), x)
		}
	}
	least, greatest := math.MinInt, math.MaxInt
	for _, x := range []struct{ c, i, want int }{
		{3, 0, 0}, {3, 2, 0}, {3, 3, 1}, {3, 6, 2}, {3, 7, 3}, {3, 8, 3}, {3, 9, 3}, {3, 10, 3}, {3, greatest, 3}, {3, -1, 0}, {3, least, 0},
		{5, 1, 1}, {5, 3, 1}, {5, 4, 2}, {0, 1, 0}, {0, 2, 1}, {0, 8, 1}, {0, 9, 2}, {6, 7, 0}, {6, 8, 1}, {1, 4, 0}, {1, 5, 1},
		{2, 9, 0}, {4, 9, 0}, {7, 9, 0}, {7, greatest, 0}, {8, 9, 0}, {9, 9, 0}, {13, 9, 0}, {11, greatest, 0}, {8 + 3, 9, 0}, {64 + 5, 9, 0}, {-1, 9, 0}, {-3, 9, 0}, {-8, 9, 0}, {-5, greatest, 0}, {least, 9, 0}, {least + 3, 9, 0}, {greatest, 9, 0}, {greatest, greatest, 0}, {least, least, 0}, {1<<32 + 3, 9, 0},
	} {
		if got := m.Rank(x.c, x.i); got != x.want {
			t.Errorf("Rank(%d, %d): %d, not %d", x.c, x.i, got, x.want)
		}
	}
	for _, x := range []struct{ c, k, want int }{
		{3, 0, 2}, {3, 1, 5}, {3, 2, 6}, {3, 3, -1}, {3, 9, -1}, {3, greatest, -1}, {3, -1, -1}, {3, least, -1},
		{5, 0, 0}, {5, 1, 3}, {5, 2, -1}, {0, 0, 1}, {0, 1, 8}, {0, 2, -1}, {0, -1, -1}, {6, 0, 7}, {6, 1, -1}, {6, -1, -1}, {1, 0, 4}, {1, 1, -1},
		{2, 0, -1}, {4, 0, -1}, {7, 0, -1}, {7, -1, -1}, {8, 0, -1}, {9, 0, -1}, {13, 0, -1}, {8 + 3, 0, -1}, {-1, 0, -1}, {-3, 0, -1}, {-8, 0, -1}, {-5, 1, -1}, {least, 0, -1}, {least + 3, 0, -1}, {greatest, 0, -1}, {greatest, greatest, -1}, {least, least, -1}, {1<<32 + 3, 0, -1},
	} {
		if got := m.Select(x.c, x.k); got != x.want {
			t.Errorf("Select(%d, %d): %d, not %d", x.c, x.k, got, x.want)
		}
	}
}

func TestPlacesAndNumbersFarOutside(t *testing.T) {
	for _, r := range []row{{"none", nil, 0}, {"none, wide", nil, api.MaxInts - 1}, {"one", []int{0}, 0}, {"one, wide", []int{9}, api.MaxInts - 1}, {"some", []int{2, 1, 2, 0}, 2}, {"many", scattered(700, 256, 5), 255}} {
		m := made(t, r.l, r.most)
		w := widthBy(r.most)
		cs := append(append([]int{0, 2, 9, r.most, r.most + 1, 1<<w - 1, 1 << w, 1<<w + 2, 1<<w | 9, 1<<62 | 2, 1<<40 | 1}, r.l[:min(len(r.l), 4)]...), extremes...)
		is := append([]int{0, 1, len(r.l) - 1, len(r.l), len(r.l) + 1, -len(r.l), -len(r.l) - 1}, extremes...)
		checkPlaces(t, r, m, cs, is)
	}
}

// checkLinks holds that Select, Rank and At lead to one another.
func checkLinks(t *testing.T, r row, m *Matrix) {
	t.Helper()
	for i, x := range r.l {
		k := m.Rank(x, i)
		if at := m.Select(x, k); at != i || m.At(i) != x || m.Rank(x, i+1) != k+1 {
			t.Fatalf("%s: %v below %d: %d at %d: %d ahead, the next one at %d", r.name, few(r.l), r.most+1, x, i, k, at)
		}
	}
	for _, c := range ends(r, r.l[:min(len(r.l), 20)]...) {
		all := m.Rank(c, len(r.l))
		last := -1
		for k := range all {
			i := m.Select(c, k)
			if i <= last || m.At(i) != c || m.Rank(c, i) != k {
				t.Fatalf("%s: %v below %d: the %d of number %d: %d", r.name, few(r.l), r.most+1, c, k, i)
			}
			last = i
		}
		if m.Select(c, all) != -1 {
			t.Fatalf("%s: %v below %d: %d of %d: %d", r.name, few(r.l), r.most+1, all, c, m.Select(c, all))
		}
	}
}

func TestSelectAndRankLeadToOneAnother(t *testing.T) {
	shortRows(func(r row) { checkLinks(t, r, made(t, r.l, r.most)) })
	for _, r := range longRows() {
		checkLinks(t, r, made(t, r.l, r.most))
	}
}

func TestRanksAddUp(t *testing.T) {
	for _, r := range longRows() {
		if r.most > 600 {
			continue
		}
		m := made(t, r.l, r.most)
		for _, i := range spots(len(r.l)) {
			sum := 0
			for c := -1; c <= 2*r.most+2; c++ {
				sum += m.Rank(c, i)
			}
			if want := max(0, min(i, len(r.l))); sum != want {
				t.Fatalf("%s: %d ahead of %d", r.name, sum, i)
			}
		}
	}
}

// P13.3

func TestQuantileAndBelowWrittenOut(t *testing.T) {
	m := made(t, []int{5, 0, 3, 5, 1, 3, 3, 6, 0}, 6)
	least, greatest := math.MinInt, math.MaxInt
	for _, x := range []struct{ a, b, k, want int }{
		{1, 6, 0, 0}, {1, 6, 1, 1}, {1, 6, 2, 3}, {1, 6, 3, 3}, {1, 6, 4, 5}, {1, 6, 5, -1}, {1, 6, 6, -1}, {1, 6, greatest, -1}, {1, 6, -1, -1}, {1, 6, least, -1},
		{0, 9, 0, 0}, {0, 9, 1, 0}, {0, 9, 2, 1}, {0, 9, 4, 3}, {0, 9, 7, 5}, {0, 9, 8, 6}, {0, 9, 9, -1}, {-3, 12, 8, 6}, {-3, 12, 9, -1}, {least, greatest, 0, 0}, {least, greatest, 8, 6}, {least, greatest, 9, -1}, {least, greatest, greatest, -1},
		{-2, 2, 0, 0}, {-2, 2, 1, 5}, {-2, 2, 2, -1}, {7, 99, 1, 6}, {7, 99, 2, -1}, {7, 8, 0, 6}, {7, 8, 1, -1}, {8, greatest, 0, 0}, {8, greatest, 1, -1}, {least, 1, 0, 5}, {least, 1, 1, -1},
		{3, 3, 0, -1}, {0, 0, 0, -1}, {9, 9, 0, -1}, {9, 12, 0, -1}, {-4, 0, 0, -1}, {-4, -2, 0, -1}, {5, 2, 0, -1}, {9, 0, 0, -1}, {greatest, least, 0, -1}, {least, least, 0, -1}, {greatest, greatest, 0, -1}, {6, -1, 0, -1}, {12, 10, 0, -1}, {12, 5, 0, -1}, {5, 2, -1, -1}, {5, 2, -2, -1},
	} {
		if got := m.Quantile(x.a, x.b, x.k); got != x.want {
			t.Errorf("Quantile(%d, %d, %d): %d, not %d", x.a, x.b, x.k, got, x.want)
		}
	}
	for _, x := range []struct{ a, b, c, want int }{
		{1, 6, 3, 2}, {1, 6, 0, 0}, {1, 6, 1, 1}, {1, 6, 2, 2}, {1, 6, 4, 4}, {1, 6, 5, 4}, {1, 6, 6, 5}, {1, 6, 7, 5}, {1, 6, 8, 5}, {1, 6, 9, 5}, {1, 6, greatest, 5}, {1, 6, -1, 0}, {1, 6, least, 0},
		{0, 9, 100, 9}, {0, 9, -1, 0}, {0, 9, 0, 0}, {0, 9, 6, 8}, {0, 9, 7, 9}, {0, 9, 8, 9}, {0, 9, 1 << 32, 9}, {-3, 12, 6, 8}, {-3, 12, 8, 9}, {least, greatest, greatest, 9}, {least, greatest, least, 0}, {least, greatest, 3, 3}, {-5, 3, 5, 2}, {6, 99, 6, 2},
		{5, 2, 3, 0}, {5, 2, greatest, 0}, {5, 2, least, 0}, {3, 3, 8, 0}, {9, 12, 8, 0}, {-4, 0, 8, 0}, {-4, -2, 9, 0}, {greatest, least, greatest, 0}, {least, least, 8, 0}, {greatest, greatest, 8, 0}, {9, 0, 9, 0}, {12, 5, 9, 0}, {6, -1, 100, 0},
	} {
		if got := m.Below(x.a, x.b, x.c); got != x.want {
			t.Errorf("Below(%d, %d, %d): %d, not %d", x.a, x.b, x.c, got, x.want)
		}
	}
}

func TestDistinctWrittenOut(t *testing.T) {
	m := made(t, []int{5, 0, 3, 5, 1, 3, 3, 6, 0}, 6)
	whole := []api.Pair{{Symbol: 0, Count: 2}, {Symbol: 1, Count: 1}, {Symbol: 3, Count: 3}, {Symbol: 5, Count: 2}, {Symbol: 6, Count: 1}}
	least, greatest := math.MinInt, math.MaxInt
	for _, x := range []struct {
		a, b int
		want []api.Pair
	}{
		{0, 9, whole}, {-1, 9, whole}, {0, 10, whole}, {least, greatest, whole}, {-3, 4, []api.Pair{{Symbol: 0, Count: 1}, {Symbol: 3, Count: 1}, {Symbol: 5, Count: 2}}}, {5, 7, []api.Pair{{Symbol: 3, Count: 2}}}, {7, 99, []api.Pair{{Symbol: 0, Count: 1}, {Symbol: 6, Count: 1}}}, {8, 9, []api.Pair{{Symbol: 0, Count: 1}}}, {least, 1, []api.Pair{{Symbol: 5, Count: 1}}},
		{0, 0, nil}, {4, 4, nil}, {9, 9, nil}, {9, greatest, nil}, {least, 0, nil}, {-5, -2, nil}, {5, 2, nil}, {9, 0, nil}, {greatest, least, nil}, {12, 5, nil}, {6, -1, nil}, {least, least, nil}, {greatest, greatest, nil},
	} {
		if got := m.Distinct(x.a, x.b); !slices.Equal(got, x.want) {
			t.Errorf("Distinct(%d, %d): %v, not %v", x.a, x.b, got, x.want)
		}
	}
}

func TestRangesFarOutside(t *testing.T) {
	for _, r := range []row{{"none", nil, 0}, {"none, wide", nil, api.MaxInts - 1}, {"one", []int{0}, 0}, {"one, wide", []int{9}, api.MaxInts - 1}, {"some", []int{2, 1, 2, 0}, 2}, {"many", scattered(70, 256, 5), 255}} {
		m := made(t, r.l, r.most)
		n := len(r.l)
		places := append([]int{0, 1, n / 2, n - 1, n, n + 1, -n, -n - 1}, extremes...)
		ks := append([]int{0, 1, n - 1, n, n + 1}, extremes...)
		cs := append(ends(r, r.l[:min(n, 4)]...), extremes...)
		for _, a := range places {
			for _, b := range places {
				checkRange(t, r, m, a, b, ks, cs)
			}
		}
	}
}

// checkRangesAgree holds that a range's answers agree with one another.
func checkRangesAgree(t *testing.T, r row, m *Matrix, a, b int) {
	t.Helper()
	all, last := 0, -1
	for _, p := range m.Distinct(a, b) {
		if p.Symbol <= last || p.Count < 1 || p.Count != m.Rank(p.Symbol, b)-m.Rank(p.Symbol, max(a, 0)) {
			t.Fatalf("%s: from %d ahead of %d: %v behind %d", r.name, a, b, p, last)
		}
		if m.Below(a, b, p.Symbol) != all || m.Below(a, b, p.Symbol+1) != all+p.Count {
			t.Fatalf("%s: from %d ahead of %d: %d below %v, not %d", r.name, a, b, m.Below(a, b, p.Symbol), p, all)
		}
		for k := all; k < all+p.Count; k += max(1, p.Count-1) {
			if m.Quantile(a, b, k) != p.Symbol {
				t.Fatalf("%s: from %d ahead of %d: %d at %d, not %v", r.name, a, b, m.Quantile(a, b, k), k, p)
			}
		}
		last = p.Symbol
		all += p.Count
	}
	if want := max(0, min(b, len(r.l))-max(a, 0)); all != want || m.Quantile(a, b, all) != -1 || m.Below(a, b, math.MaxInt) != all {
		t.Fatalf("%s: from %d ahead of %d: %d in all, not %d", r.name, a, b, all, want)
	}
}

func TestQuantileBelowAndDistinctAgree(t *testing.T) {
	for _, r := range longRows() {
		m := made(t, r.l, r.most)
		n := len(r.l)
		for _, ab := range [][2]int{{0, n}, {-4, n + 4}, {n / 3, n}, {0, n / 2}, {n / 4, n / 2}, {n / 2, n / 4}, {n, n}, {n - 1, n}, {0, 1}} {
			checkRangesAgree(t, r, m, ab[0], ab[1])
		}
	}
}

func TestQuantilesOfTheWholeRowAreTheRowInOrder(t *testing.T) {
	for _, r := range longRows() {
		m := made(t, r.l, r.most)
		sorted := slices.Sorted(slices.Values(r.l))
		got := numbers(len(r.l), func(k int) int { return m.Quantile(0, len(r.l), k) })
		if !slices.Equal(got, sorted) {
			t.Fatalf("%s: %v, not %v", r.name, few(got), few(sorted))
		}
	}
}

// A nil matrix.

func TestNilMatrix(t *testing.T) {
	var m *Matrix
	if m.Len() != 0 || len(m.Levels()) != 0 {
		t.Errorf("%d, %d", m.Len(), len(m.Levels()))
	}
	places := append([]int{0, 1, 2, 64}, extremes...)
	for _, a := range places {
		if m.At(a) != -1 {
			t.Errorf("At(%d): %d", a, m.At(a))
		}
		for _, b := range places {
			if m.Rank(a, b) != 0 || m.Select(a, b) != -1 || len(m.Distinct(a, b)) != 0 {
				t.Errorf("%d, %d: %d %d %v", a, b, m.Rank(a, b), m.Select(a, b), m.Distinct(a, b))
			}
			for _, c := range places {
				if m.Quantile(a, b, c) != -1 || m.Below(a, b, c) != 0 {
					t.Fatalf("%d, %d, %d: %d %d", a, b, c, m.Quantile(a, b, c), m.Below(a, b, c))
				}
			}
		}
	}
}

// What is handed in and out.

// someRows answers rows of few and of many numbers.
func someRows() []row {
	return []row{
		{"none", nil, 4}, {"one", []int{3}, 3}, {"alike", []int{6, 6, 6}, 6}, {"some", []int{2, 1, 2, 0}, 2}, {"unlike", []int{7, 2, 0, 5, 1}, 8},
		{"many", scattered(200, 256, 11), 255}, {"wide", scattered(90, api.MaxInts, 12), api.MaxInts - 1},
	}
}

func TestTheListIsLeftAsItIs(t *testing.T) {
	for _, r := range someRows() {
		for _, fill := range []int{0, 1, 99, -1, math.MaxInt} {
			l := withRoom(r.l, fill)
			was := slices.Clone(l[:cap(l)])
			stays := func(call string) {
				if !slices.Equal(l[:cap(l)], was) {
					t.Fatalf("%s: %s changed the list", r.name, call)
				}
			}
			m := made(t, l, r.most)
			stays("New")
			n := len(l)
			for _, call := range []struct {
				name string
				f    func()
			}{
				{"Len", func() { m.Len() }}, {"Levels", func() { m.Levels() }}, {"At", func() { m.At(n / 2) }}, {"Rank", func() { m.Rank(r.most, n) }}, {"Select", func() { m.Select(m.At(0), 0) }},
				{"Quantile", func() { m.Quantile(0, n, n/2) }}, {"Below", func() { m.Below(0, n, r.most) }}, {"Distinct", func() { m.Distinct(0, n) }},
			} {
				call.f()
				stays(call.name)
			}
			check(t, row{r.name, slices.Clone(r.l), r.most}, m)
			stays("a call")
			refused(t, l, -1)
			if n > 0 && slices.Max(l) > 0 {
				refused(t, l, slices.Max(l)-1)
			}
			stays("New that refused")
		}
	}
}

func TestTheMatrixIsOfTheRowAsItWas(t *testing.T) {
	for _, r := range someRows() {
		l := withRoom(r.l, 1)
		m := made(t, l, r.most)
		for _, x := range []int{0, r.most, -1, math.MaxInt} {
			spoil(l, x)
			check(t, r, m)
		}
		_ = append(l, 5, 6)
		check(t, r, m)
	}
}

func TestWhatIsAnsweredMayBeChanged(t *testing.T) {
	other, e := rank.New(ones(t, 3))
	if e != api.OK {
		t.Fatal(e)
	}
	for _, r := range someRows() {
		m := made(t, r.l, r.most)
		for _, v := range m.Levels() {
			*v = *other
		}
		check(t, r, m)
		for _, v := range m.Levels() {
			*v = rank.Vec{}
		}
		check(t, r, m)
		spoil(m.Levels(), nil)
		check(t, r, m)
		spoil(m.Levels(), other)
		_ = append(m.Levels(), other, nil)
		check(t, r, m)
		for _, ab := range [][2]int{{0, len(r.l)}, {0, 1}, {1, 3}} {
			d := m.Distinct(ab[0], ab[1])
			spoil(d, api.Pair{Symbol: -9, Count: 9})
			_ = append(d, api.Pair{Symbol: 1, Count: 1})
			check(t, r, m)
		}
	}
}

// ones answers a packed list of n ones.
func ones(t *testing.T, n int) *pack.Ints {
	t.Helper()
	p, e := pack.New(1, n)
	if e != api.OK {
		t.Fatal(e)
	}
	for i := range n {
		p.Set(i, 1)
	}
	return p
}

func TestAnswersShareNothing(t *testing.T) {
	for _, r := range someRows() {
		m := made(t, r.l, r.most)
		n := len(r.l)
		first, second := m.Levels(), m.Levels()
		distinct, again := m.Distinct(0, n), m.Distinct(0, n)
		for _, v := range first {
			*v = rank.Vec{}
		}
		spoil(first, nil)
		spoil(distinct, api.Pair{})
		_ = append(distinct, api.Pair{Symbol: 4, Count: 4})
		for k, want := range levelsBy(r.l, widthBy(r.most)) {
			if !slices.Equal(bitsOf(second[k]), want) {
				t.Fatalf("%s: level %d changed with another answer's", r.name, k)
			}
		}
		if !slices.Equal(again, distinctBy(rangeBy(r.l, 0, n))) {
			t.Fatalf("%s: %v changed with another answer", r.name, again)
		}
	}
}

func TestTheSpareRoomOfDistinctIsNobodys(t *testing.T) {
	m := made(t, []int{2, 1, 2, 0, 3, 5, 4}, 7)
	for b := range 8 {
		d := m.Distinct(0, b)
		kept := slices.Clone(d)
		_ = append(m.Distinct(0, b), api.Pair{Symbol: 6, Count: 6})
		_ = append(m.Distinct(0, 7), api.Pair{Symbol: 7, Count: 7})
		if !slices.Equal(d, kept) {
			t.Errorf("ahead of %d: %v, not %v", b, d, kept)
		}
	}
}

func TestMatricesBesideOneAnother(t *testing.T) {
	a, b := row{"first", []int{2, 1, 2, 0}, 2}, row{"second", []int{5, 0, 3, 5, 1}, 7}
	first := made(t, a.l, a.most)
	second := made(t, b.l, b.most)
	for range 3 {
		check(t, a, first)
		check(t, b, second)
		refused(t, a.l, 1)
		refused(t, b.l, api.MaxInts)
		made(t, []int{1, 1, 1}, 1)
	}
}

func TestOnceMoreTheSame(t *testing.T) {
	for _, r := range someRows() {
		m, once := made(t, r.l, r.most), made(t, r.l, r.most)
		n := len(r.l)
		for i := -1; i <= n; i++ {
			for range 2 {
				if m.At(i) != once.At(i) || m.Rank(2, i) != once.Rank(2, i) || m.Quantile(0, n, i) != once.Quantile(0, n, i) || !slices.Equal(m.Distinct(i, n), once.Distinct(i, n)) {
					t.Fatalf("%s: other answers at %d", r.name, i)
				}
			}
		}
	}
}

// The chapter's examples.

func TestExamples(t *testing.T) {
	m := made(t, []int{2, 1, 2, 0}, 2)
	if m.Rank(2, 3) != 2 || m.Select(2, 1) != 2 || m.Quantile(0, 4, 1) != 1 || m.Below(0, 4, 2) != 2 {
		t.Errorf("%d %d %d %d", m.Rank(2, 3), m.Select(2, 1), m.Quantile(0, 4, 1), m.Below(0, 4, 2))
	}
	if d := m.Distinct(0, 3); !slices.Equal(d, []api.Pair{{Symbol: 1, Count: 1}, {Symbol: 2, Count: 2}}) {
		t.Errorf("%v", d)
	}
}
