package tally

import (
	"bytes"
	"math"
	"slices"
	"testing"

	"colophon/api"
	"colophon/docs"
	"colophon/find"
	"colophon/lcp"
	"colophon/suffix"
	"colophon/text"
)

// most is of how many places a tally may be.
const most = api.MaxInts / 2

// extremes are places of no row.
var extremes = []int{
	-1, -2, -3, -64, -api.MaxInts, math.MinInt32, math.MinInt, math.MinInt + 1,
	most + 1, api.MaxInts, api.MaxInts + 1, 1 << 24, math.MaxInt32, 1 << 32, 1<<32 + 1, math.MaxInt - 1, math.MaxInt,
}

// ints are numbers that rows may have.
var ints = []int{0, math.MinInt, math.MaxInt, -1, 1}

// rows is a row of documents and what its suffixes have in common, by a name.
type rows struct {
	name    string
	da, lcp []int
}

// numbers answers n numbers by a rule.
func numbers(n int, rule func(i int) int) []int {
	l := make([]int, n)
	for i := range l {
		l[i] = rule(i)
	}
	return l
}

// rising answers the numbers below n.
func rising(n int) []int {
	return numbers(n, func(i int) int { return i })
}

// falling answers the numbers below n, the greatest first.
func falling(n int) []int {
	return numbers(n, func(i int) int { return n - 1 - i })
}

// scattered answers n numbers below bound that look like no rule.
func scattered(n, bound int, seed uint64) []int {
	x := seed
	return numbers(n, func(int) int {
		x = x*6364136223846793005 + 1442695040888963407
		return int((x >> 33) % uint64(bound))
	})
}

// of answers the numbers among these that l counts.
func of(l, among []int) []int {
	return numbers(len(l), func(i int) int { return among[l[i]] })
}

// with answers l with x at this place.
func with(l []int, at, x int) []int {
	k := slices.Clone(l)
	k[at] = x
	return k
}

// withRoom answers a list like l, with a spare room filled by fill.
func withRoom(l []int, fill int) []int {
	k := make([]int, len(l), len(l)+5)
	copy(k, l)
	spoil(k[len(k):cap(k)], fill)
	return k
}

// spoil lays x everywhere in l, its spare room too.
func spoil(l []int, x int) {
	l = l[:cap(l)]
	for i := range l {
		l[i] = x
	}
}

// every calls f with each list of n numbers below bound.
func every(n, bound int, f func(l []int)) {
	l := make([]int, n)
	for {
		f(l)
		i := 0
		for ; i < n && l[i] == bound-1; i++ {
			l[i] = 0
		}
		if i == n {
			return
		}
		l[i]++
	}
}

// everyTwo calls f with each two lists of n numbers, the one's below one bound, the other's below another.
func everyTwo(n, bound, other int, f func(l, k []int)) {
	every(n, bound, func(l []int) {
		every(n, other, func(k []int) { f(l, k) })
	})
}

// few answers the first numbers of l, so that a fault's text stays short.
func few(l []int) []int {
	return l[:min(len(l), 20)]
}

// laidBy tells by the chapter's words where the link of two places is laid.
func laidBy(lcp []int, first, second int) int {
	least := slices.Min(lcp[first+1 : second+1])
	for i := first + 1; i <= second; i++ {
		if lcp[i] == least {
			return i
		}
	}
	return -1
}

// doublesBy tells by the chapter's words how many links are laid at each place, by counting them one by one.
func doublesBy(da, lcp []int) []int {
	doubles := make([]int, len(da))
	for first := range da {
		for second := first + 1; second < len(da); second++ {
			if da[second] == da[first] {
				doubles[laidBy(lcp, first, second)]++
				break // of each place behind, it has the number between
			}
		}
	}
	return doubles
}

// docsBy tells by the chapter's words what Docs answers of these doubles.
func docsBy(doubles []int, a, b int) int {
	if a < 0 || a >= b || b > len(doubles) {
		return 0
	}
	n := b - a
	for i, many := range doubles {
		if i > a && i < b {
			n -= many
		}
	}
	return n
}

// made answers the tally of rows.
func made(t *testing.T, r rows) *Tally {
	t.Helper()
	y, e := New(r.da, r.lcp)
	if e != api.OK || y == nil {
		t.Fatalf("%s: New of %d and %d numbers: %v, %v", r.name, len(r.da), len(r.lcp), y != nil, e)
	}
	return y
}

// refused holds that New refuses these.
func refused(t *testing.T, da, lcp []int) {
	t.Helper()
	if y, e := New(da, lcp); y != nil || e != api.ErrArg {
		t.Errorf("New of %d and %d numbers: %v, %v", len(da), len(lcp), y != nil, e)
	}
}

// wantDoubles holds one answer of Doubles.
func wantDoubles(t *testing.T, r rows, y *Tally, i, many int) {
	t.Helper()
	if got := y.Doubles(i); got != many {
		t.Fatalf("%s: %d places, %v, %v: Doubles(%d): %d, not %d", r.name, len(r.da), few(r.da), few(r.lcp), i, got, many)
	}
}

// wantDocs holds one answer of Docs.
func wantDocs(t *testing.T, r rows, y *Tally, a, b, many int) {
	t.Helper()
	if got := y.Docs(a, b); got != many {
		t.Fatalf("%s: %d places, %v, %v: Docs(%d, %d): %d, not %d", r.name, len(r.da), few(r.da), few(r.lcp), a, b, got, many)
	}
}

// spots answers places of which rows of n may be asked: the first and the last ones, those beside them, those in the middle, and the greatest and least ints.
func spots(n int, more ...int) []int {
	l := append([]int{-2, -1, 0, 1, 2, n / 3, n / 2, n/2 + 1, n - 2, n - 1, n, n + 1, n + 2, 2 * n, math.MinInt, math.MaxInt}, more...)
	slices.Sort(l)
	return slices.Compact(l)
}

// check holds a tally of short rows against these doubles, at all places and in all ranges, some far outside.
func check(t *testing.T, r rows, y *Tally, doubles []int) {
	t.Helper()
	checkAt(t, r, y, doubles, spots(len(doubles), rising(len(doubles))...))
}

// checkNear holds a tally of short rows against these doubles, at all places and in all ranges, some just outside.
func checkNear(t *testing.T, r rows, y *Tally, doubles []int) {
	t.Helper()
	checkAt(t, r, y, doubles, numbers(len(doubles)+3, func(i int) int { return i - 1 }))
}

// checkAt holds a tally of short rows against these doubles, at these places and in the ranges between these.
func checkAt(t *testing.T, r rows, y *Tally, doubles, places []int) {
	t.Helper()
	for _, a := range places {
		many := 0
		if a >= 0 && a < len(doubles) {
			many = doubles[a]
		}
		wantDoubles(t, r, y, a, many)
		for _, b := range places {
			wantDocs(t, r, y, a, b, docsBy(doubles, a, b))
		}
	}
}

// checkAll holds a tally of long rows against these doubles, at all places and in all ranges, as a range's end goes on.
func checkAll(t *testing.T, r rows, y *Tally, doubles []int) {
	t.Helper()
	n := len(doubles)
	for a, many := range doubles {
		wantDoubles(t, r, y, a, many)
		left := 1
		for b := a + 1; b <= n; b++ {
			wantDocs(t, r, y, a, b, left)
			if b < n {
				left += 1 - doubles[b]
			}
		}
	}
	checkSome(t, r, y, doubles)
}

// checkSome holds a tally of rows of any length against these doubles, at some places and in the ranges between these.
func checkSome(t *testing.T, r rows, y *Tally, doubles []int) {
	t.Helper()
	n := len(doubles)
	ahead := make([]int, n+1)
	for i, many := range doubles {
		ahead[i+1] = ahead[i] + many
	}
	places := spots(n, 63, 64, 65, 511, 512, 513, n/4, n/4*3, n/5, n-63, n-64, n-65)
	for _, a := range places {
		many := 0
		if a >= 0 && a < n {
			many = doubles[a]
		}
		wantDoubles(t, r, y, a, many)
		for _, b := range places {
			left := 0
			if a >= 0 && a < b && b <= n {
				left = b - a - (ahead[b] - ahead[a+1])
			}
			wantDocs(t, r, y, a, b, left)
		}
	}
}

// kinds answers lists of n numbers of many kinds: alike, unlike, rising, falling, below 0, of the greatest and the least ints.
func kinds(n int) [][]int {
	return [][]int{
		make([]int, n), slices.Repeat([]int{math.MinInt}, n), slices.Repeat([]int{math.MaxInt}, n), rising(n), falling(n),
		numbers(n, func(i int) int { return math.MinInt + i }), numbers(n, func(i int) int { return math.MaxInt - i }), numbers(n, func(i int) int { return -(i * 7919 % 101) }),
		numbers(n, func(i int) int { return i % 2 }), numbers(n, func(i int) int { return i % 3 << 32 }), numbers(n, func(i int) int { return i % (n/2 + 1) }), numbers(n, func(i int) int { return i / 7 }), numbers(n, func(i int) int { return min(i, n-1-i) }), numbers(n, func(i int) int { return max(i, n-1-i) }),
		of(scattered(n, 5, uint64(n)), ints), scattered(n, 2, uint64(n)+1), scattered(n, 9, uint64(n)+2), scattered(n, 1<<30, uint64(n)+3),
	}
}

// longRows answers rows of many lengths, each kind of the one beside each kind of the other.
func longRows(lengths ...int) []rows {
	var all []rows
	for _, n := range lengths {
		for _, da := range kinds(n) {
			for _, l := range kinds(n) {
				all = append(all, rows{"long", da, l})
			}
		}
	}
	return all
}

// someRows answers rows of few and of many places.
func someRows() []rows {
	return []rows{
		{"none", nil, nil}, {"one", []int{5}, []int{0}}, {"two alike", []int{3, 3}, []int{0, 1}}, {"two unlike", []int{3, 4}, []int{0, 1}}, {"the example", []int{0, 1, 0, 0, 1}, []int{0, 0, 0, 2, 1}},
		{"alike", make([]int, 70), rising(70)}, {"unlike", rising(40), falling(40)}, {"scattered", scattered(90, 5, 1), scattered(90, 4, 2)}, {"any ints", of(scattered(80, 5, 3), ints), of(scattered(80, 5, 4), ints)},
		{"all at one place", numbers(60, func(i int) int { return i % 30 }), with(make([]int, 60), 30, -1)},
	}
}

// P16.1

func TestNewOfNoPlaces(t *testing.T) {
	empty := [][]int{nil, {}, make([]int, 0, 7), []int{1, 2, 3}[:0]}
	for _, da := range empty {
		for _, l := range empty {
			y := made(t, rows{"none", da, l})
			check(t, rows{"none", da, l}, y, nil)
			for _, i := range append([]int{0, 1}, extremes...) {
				if y.Doubles(i) != 0 || y.Docs(0, i) != 0 || y.Docs(i, 0) != 0 || y.Docs(i, i) != 0 {
					t.Errorf("at %d: %d, %d, %d", i, y.Doubles(i), y.Docs(0, i), y.Docs(i, 0))
				}
			}
		}
	}
}

func TestNewOfOnePlace(t *testing.T) {
	for _, d := range append([]int{0, 1, 2, 255, 256}, extremes...) {
		for _, c := range append([]int{0, 1, 2}, extremes...) {
			r := rows{"one", []int{d}, []int{c}}
			y := made(t, r)
			check(t, r, y, []int{0})
			if y.Docs(0, 1) != 1 || y.Doubles(0) != 0 || y.Docs(0, 2) != 0 || y.Docs(-1, 1) != 0 || y.Docs(1, 1) != 0 || y.Docs(0, 0) != 0 {
				t.Errorf("%d, %d: %d, %d", d, c, y.Docs(0, 1), y.Doubles(0))
			}
		}
	}
}

func TestNewRefusesUnlikeLengths(t *testing.T) {
	for n := range 70 {
		for _, m := range []int{0, 1, 2, n / 2, n - 2, n - 1, n + 1, n + 2, n + 64, 2 * n, 2*n + 1} {
			if m < 0 || m == n {
				continue
			}
			refused(t, rising(n), rising(m))
			refused(t, make([]int, n), make([]int, m))
			refused(t, slices.Repeat([]int{math.MaxInt}, n), slices.Repeat([]int{math.MinInt}, m))
			refused(t, rising(n + m)[:n], rising(n + m)[:m]) // with room for as many as the other has
		}
	}
	refused(t, nil, []int{0})
	refused(t, []int{0}, nil)
	refused(t, []int{}, []int{1})
	refused(t, []int{1}, []int{})
}

func TestNewRefusesMoreThanMayBe(t *testing.T) {
	l := make([]int, 2*api.MaxInts)
	for _, n := range []int{most + 1, most + 2, most + 64, api.MaxInts - 1, api.MaxInts, api.MaxInts + 1, 2 * api.MaxInts} {
		refused(t, l[:n], l[:n])
		refused(t, l[:n], l[:most])
		refused(t, l[:most], l[:n])
		refused(t, l[:n], nil)
		refused(t, nil, l[:n])
	}
	refused(t, l[:most], l[:most-1])
	refused(t, l[:most-1], l[:most])
	refused(t, l[:most+1], l[:most+2])
	refused(t, rising(most+1), l[:most+1])
}

func TestNewOfAsManyAsMayBe(t *testing.T) {
	const half = most / 2
	alike, up, down := make([]int, most), rising(most), falling(most)
	// between answers this many doubles at the places from a on, ahead of b, and none at others.
	between := func(a, b, many int) []int {
		return numbers(most, func(i int) int {
			if i < a || i >= b {
				return 0
			}
			return many
		})
	}
	twice := numbers(most, func(i int) int { return i % half })
	pairs := numbers(most, func(i int) int { return i / 2 })
	turns := numbers(most, func(i int) int { return i % 2 })
	for _, x := range []struct {
		name             string
		da, lcp, doubles []int
	}{
		{"alike", alike, alike, between(1, most, 1)}, {"alike, falling", alike, down, between(1, most, 1)}, {"unlike", up, alike, alike},
		{"each twice", twice, alike, between(1, half+1, 1)}, {"each twice, falling", twice, down, between(half, most, 1)}, {"each twice, at one place", twice, with(alike, half, -1), between(half, half+1, half)},
		{"pairs", pairs, scattered(most, 9, 5), turns}, {"turns", turns, alike, between(1, most-1, 1)}, {"turns, falling", turns, down, between(2, most, 1)}, {"turns, two at one place", turns, turns, numbers(most, func(i int) int { return 2 * (1 - turns[i]) * min(i, 1) })},
	} {
		r := rows{x.name, x.da, x.lcp}
		checkSome(t, r, made(t, r), x.doubles)
		r.da, r.lcp = r.da[:most-1], r.lcp[:most-1]
		if made(t, r).Docs(0, most) != 0 {
			t.Errorf("%s: a range that ends behind the last place", x.name)
		}
	}
}

func TestDoublesWrittenOut(t *testing.T) {
	least, greatest := math.MinInt, math.MaxInt
	for _, x := range []struct{ da, lcp, doubles []int }{
		{[]int{0, 0}, []int{0, 0}, []int{0, 1}}, {[]int{0, 1}, []int{0, 0}, []int{0, 0}}, {[]int{0, 0, 0}, []int{0, 5, 3}, []int{0, 1, 1}},
		{[]int{0, 1, 0}, []int{0, 1, 2}, []int{0, 1, 0}}, {[]int{0, 1, 0}, []int{0, 2, 1}, []int{0, 0, 1}},
		// The least number is there twice: the first of them.
		{[]int{0, 1, 0}, []int{0, 1, 1}, []int{0, 1, 0}}, {[]int{0, 1, 2, 0}, []int{0, 2, 1, 1}, []int{0, 0, 1, 0}}, {[]int{0, 1, 2, 0}, []int{0, 1, 2, 1}, []int{0, 1, 0, 0}}, {[]int{0, 1, 2, 3, 0}, []int{7, 3, 3, 3, 3}, []int{0, 1, 0, 0, 0}},
		// What is at the first place itself, or behind the second one, is none of the link's.
		{[]int{0, 1, 0}, []int{-9, 2, 1}, []int{0, 0, 1}}, {[]int{1, 0, 2, 0}, []int{4, 0, 3, 2}, []int{0, 0, 0, 1}}, {[]int{0, 1, 0, 2}, []int{5, 3, 4, 1}, []int{0, 1, 0, 0}}, {[]int{1, 0, 2, 0, 3}, []int{-1, -2, 3, 3, -3}, []int{0, 0, 1, 0, 0}},
		// Several links at one place.
		{[]int{0, 1, 2, 0, 1, 2}, []int{0, 4, 4, 1, 4, 4}, []int{0, 0, 0, 3, 0, 0}}, {[]int{0, 1, 1, 0}, []int{3, 3, 1, 3}, []int{0, 0, 2, 0}}, {[]int{0, 1, 2, 3, 3, 2, 1, 0}, []int{0, 9, 8, 7, 0, 7, 8, 9}, []int{0, 0, 0, 0, 4, 0, 0, 0}},
		// Only places side by side in one document's row are linked.
		{[]int{0, 1, 0, 1, 0}, []int{0, 1, 1, 1, 1}, []int{0, 1, 1, 1, 0}}, {[]int{0, 1, 0, 1, 0}, []int{0, 2, 1, 0, 2}, []int{0, 0, 1, 2, 0}}, {[]int{0, 0, 1, 0}, []int{0, 4, 3, 2}, []int{0, 1, 0, 1}},
		{[]int{least, greatest, least, greatest}, []int{greatest, greatest, least, greatest}, []int{0, 0, 2, 0}}, {[]int{-1, 0, -1}, []int{least, greatest, greatest - 1}, []int{0, 0, 1}}, {[]int{-1, 0, -1}, []int{least, greatest, greatest}, []int{0, 1, 0}}, {[]int{greatest, least, greatest}, []int{0, least + 1, least}, []int{0, 0, 1}},
		{[]int{1, 1 << 32, 1, 1<<32 + 1}, []int{0, 1 << 32, 1, 0}, []int{0, 0, 1, 0}}, {[]int{0, 1 << 32}, []int{0, 0}, []int{0, 0}}, {[]int{0, 1<<63 - 1, -1 << 63, -1}, []int{0, 0, 0, 0}, []int{0, 0, 0, 0}},
	} {
		r := rows{"written out", x.da, x.lcp}
		check(t, r, made(t, r), x.doubles)
		if !slices.Equal(doublesBy(x.da, x.lcp), x.doubles) {
			t.Errorf("%v, %v: by the words %v", x.da, x.lcp, doublesBy(x.da, x.lcp))
		}
	}
}

func TestTheFirstOfTheLeastNumbers(t *testing.T) {
	const n = 80
	da := with(with(rising(n), 0, -1), n-1, -1)
	for one := 1; one < n; one++ {
		for two := one; two < n; two++ {
			r := rows{"two least", da, with(with(slices.Repeat([]int{3}, n), one, 2), two, 2)}
			y := made(t, r)
			for i := range n {
				many := 0
				if i == one {
					many = 1
				}
				wantDoubles(t, r, y, i, many)
			}
			wantDocs(t, r, y, 0, n, n-1)
			wantDocs(t, r, y, one-1, n, n-one)
			wantDocs(t, r, y, one, n, n-one)
			wantDocs(t, r, y, 0, one, one)
			wantDocs(t, r, y, 0, one+1, one)
		}
	}
}

func TestDoublesFarOutside(t *testing.T) {
	for _, r := range someRows() {
		y, doubles, n := made(t, r), doublesBy(r.da, r.lcp), len(r.da)
		for _, i := range append([]int{n, n + 1, n + 63, n + 64, n + 65, 2 * n, 2*n + 1, 3 * n, -n - 1}, extremes...) {
			wantDoubles(t, r, y, i, 0)
		}
		if n > 0 {
			wantDoubles(t, r, y, 0, 0)
			wantDoubles(t, r, y, n-1, doubles[n-1])
		}
	}
}

func TestDoublesAreAllLinks(t *testing.T) {
	for _, r := range append(longRows(1, 2, 64, 100), someRows()...) {
		y, links := made(t, r), 0
		for _, first := range docs.Back(r.da) {
			if first >= 0 {
				links++
			}
		}
		for i := range r.da {
			links -= y.Doubles(i)
		}
		if links != 0 {
			t.Errorf("%s: %v, %v: %d links more than doubles", r.name, few(r.da), few(r.lcp), links)
		}
	}
}

// P16.2

func TestDocsWrittenOut(t *testing.T) {
	least, greatest := math.MinInt, math.MaxInt
	// Links 0-3, laid at 2, 1-2, laid at 2, 3-4, laid at 4, 2-6, laid at 5.
	r := rows{"written out", []int{7, 8, 8, 7, 7, 9, 8}, []int{0, 5, 1, 4, 2, 1, 1}}
	y := made(t, r)
	check(t, r, y, []int{0, 0, 2, 0, 1, 1, 0})
	for _, x := range []struct{ a, b, docs int }{
		{0, 7, 3}, {0, 1, 1}, {0, 2, 2}, {0, 3, 1}, {0, 4, 2}, {0, 5, 2}, {0, 6, 2}, {1, 2, 1}, {1, 3, 0}, {1, 4, 1}, {1, 7, 2}, {2, 3, 1}, {2, 4, 2}, {2, 5, 2}, {2, 6, 2}, {2, 7, 3}, {3, 4, 1}, {3, 5, 1}, {3, 6, 1}, {3, 7, 2}, {4, 5, 1}, {4, 6, 1}, {4, 7, 2}, {5, 6, 1}, {5, 7, 2}, {6, 7, 1},
		// From places that aren't there, ahead of such ones.
		{-1, 7, 0}, {-1, 1, 0}, {-1, 0, 0}, {-7, 7, 0}, {least, 7, 0}, {least, 1, 0}, {least + 1, 3, 0}, {0, 8, 0}, {0, 9, 0}, {6, 8, 0}, {0, greatest, 0}, {5, greatest, 0}, {6, greatest - 1, 0}, {-1, 8, 0}, {least, greatest, 0}, {7, 8, 0}, {8, 9, 0}, {7, greatest, 0}, {greatest - 1, greatest, 0}, {least, least + 1, 0}, {least, -1, 0}, {-2, -1, 0}, {-5, 0, 0}, {least, 0, 0},
		// Of no place, and turned about.
		{0, 0, 0}, {3, 3, 0}, {6, 6, 0}, {7, 7, 0}, {8, 8, 0}, {-1, -1, 0}, {least, least, 0}, {greatest, greatest, 0}, {1, 0, 0}, {3, 1, 0}, {7, 0, 0}, {7, 6, 0}, {8, 7, 0}, {0, -1, 0}, {3, -1, 0}, {greatest, 7, 0}, {greatest, 0, 0}, {greatest, least, 0}, {0, least, 0}, {6, least, 0}, {greatest, greatest - 1, 0},
	} {
		wantDocs(t, r, y, x.a, x.b, x.docs)
	}
}

func TestDocsMayBeBelowNought(t *testing.T) {
	// Rows of no collection: what is laid between may have its places outside.
	r := rows{"at one place", []int{0, 1, 2, 3, 0, 1, 2, 3}, []int{9, 9, 9, 9, 0, 9, 9, 9}}
	y := made(t, r)
	check(t, r, y, []int{0, 0, 0, 0, 4, 0, 0, 0})
	for _, x := range []struct{ a, b, docs int }{{0, 8, 4}, {3, 5, -2}, {3, 6, -1}, {2, 5, -1}, {3, 4, 1}, {4, 5, 1}, {4, 8, 4}, {0, 4, 4}, {1, 7, 2}} {
		wantDocs(t, r, y, x.a, x.b, x.docs)
	}
}

func TestRangesThatCutLinksApart(t *testing.T) {
	// One link, from each place to each one behind it, laid at each place between: it counts just where that is, wherever the range cuts it.
	const n = 12
	for first := range n {
		for second := first + 1; second < n; second++ {
			for at := first + 1; at <= second; at++ {
				r := rows{"one link", with(rising(n), second, first), with(make([]int, n), at, -1)}
				y := made(t, r)
				for a := range n {
					for b := a + 1; b <= n; b++ {
						left := b - a
						if a < at && at < b {
							left--
						}
						wantDocs(t, r, y, a, b, left)
					}
				}
			}
		}
	}
}

func TestOnePlaceAndTwo(t *testing.T) {
	for _, r := range append(longRows(3, 65, 130), someRows()...) {
		y, doubles := made(t, r), doublesBy(r.da, r.lcp)
		for i := range r.da {
			wantDocs(t, r, y, i, i+1, 1)
			if i > 0 {
				wantDocs(t, r, y, i-1, i+1, 2-doubles[i])
			}
			wantDocs(t, r, y, i, i, 0)
			wantDocs(t, r, y, i+1, i, 0)
		}
	}
}

func TestTheWholeRowHasEachNumberOnce(t *testing.T) {
	// Each link is laid behind the first place, so that of all places just the last ones of each number are left.
	for _, r := range append(longRows(1, 2, 5, 63, 64, 65, 200), someRows()...) {
		n := len(r.da)
		unlike := len(slices.Compact(slices.Sorted(slices.Values(r.da))))
		wantDocs(t, r, made(t, r), 0, n, unlike)
		wantDocs(t, r, made(t, r), 0, n+1, 0)
		wantDocs(t, r, made(t, r), -1, n, 0)
	}
}

func TestDocsFarOutside(t *testing.T) {
	for _, r := range someRows() {
		y, n := made(t, r), len(r.da)
		doubles := doublesBy(r.da, r.lcp)
		places := append([]int{0, 1, n / 2, n - 1, n, n + 1, n + 64, 2 * n, 3 * n, -n, -n - 1}, extremes...)
		for _, a := range places {
			for _, b := range places {
				wantDocs(t, r, y, a, b, docsBy(doubles, a, b))
			}
		}
	}
}

func TestEveryShortRow(t *testing.T) {
	for _, x := range []struct{ n, bound, other int }{{0, 1, 1}, {1, 3, 3}, {2, 3, 3}, {3, 4, 4}, {4, 4, 4}, {5, 3, 3}, {5, 4, 2}, {6, 2, 3}, {6, 3, 2}, {7, 2, 2}, {8, 1, 3}} {
		everyTwo(x.n, x.bound, x.other, func(da, l []int) {
			r := rows{"short", da, l}
			checkNear(t, r, made(t, r), doublesBy(da, l))
		})
	}
}

func TestEveryShortRowOfTheGreatestAndTheLeastInts(t *testing.T) {
	for n := range 4 {
		everyTwo(n, len(ints), len(ints), func(da, l []int) {
			r := rows{"short, any ints", of(da, ints), of(l, ints)}
			check(t, r, made(t, r), doublesBy(r.da, r.lcp))
		})
	}
}

func TestLongRowsHeldAgainstTheWords(t *testing.T) {
	for _, r := range longRows(10, 32, 33, 64, 150) {
		checkAll(t, r, made(t, r), doublesBy(r.da, r.lcp))
	}
}

func TestVeryLongRowsHeldAgainstTheWords(t *testing.T) {
	for _, r := range []rows{
		{"scattered", scattered(1100, 20, 11), scattered(1100, 50, 12)}, {"scattered, few", scattered(1100, 2, 13), scattered(1100, 3, 14)}, {"scattered, unlike", scattered(1100, 1<<40, 15), scattered(1100, 1<<40, 16)}, {"scattered, many", scattered(1100, 550, 17), scattered(1100, 7, 18)},
		{"rounds", numbers(1100, func(i int) int { return i % 256 }), numbers(1100, func(i int) int { return -(i * 31 % 257) })}, {"twice", numbers(1100, func(i int) int { return i % 550 }), with(make([]int, 1100), 550, -1)},
	} {
		checkAll(t, r, made(t, r), doublesBy(r.da, r.lcp))
	}
}

// P16.3

// collection is documents by a name.
type collection struct {
	name string
	docs [][]byte
}

// texts answers a collection of these documents.
func texts(name string, docs ...string) collection {
	c := collection{name: name}
	for _, d := range docs {
		c.docs = append(c.docs, []byte(d))
	}
	return c
}

// parted answers documents of b, each so many bytes.
func parted(name string, b []byte, size int) collection {
	return collection{name, slices.Collect(slices.Chunk(b, size))}
}

// scatteredBytes answers n bytes from this one on, of so many unlike ones, that look like no rule.
func scatteredBytes(n, unlike int, from byte, seed uint64) []byte {
	b := make([]byte, n)
	for i, x := range scattered(n, unlike, seed) {
		b[i] = from + byte(x)
	}
	return b
}

// layered is a collection with all layers below over it.
type layered struct {
	collection
	x *text.Text
	r rows
	f *find.Finder
	y *Tally
}

// lay lays the layers over a collection that isn't empty.
func lay(t *testing.T, c collection) layered {
	t.Helper()
	x, e := text.New(c.docs...)
	if e != api.OK {
		t.Fatalf("%s: text: %v", c.name, e)
	}
	s := x.Symbols()
	sa, e := suffix.Array(s, x.Alphabet())
	if e != api.OK {
		t.Fatalf("%s: suffix: %v", c.name, e)
	}
	l, e := lcp.Array(s, sa)
	if e != api.OK {
		t.Fatalf("%s: lcp: %v", c.name, e)
	}
	da, e := docs.Array(x, sa)
	if e != api.OK {
		t.Fatalf("%s: docs: %v", c.name, e)
	}
	f, e := find.New(s, sa, x.Alphabet(), 8)
	if e != api.OK {
		t.Fatalf("%s: find: %v", c.name, e)
	}
	r := rows{c.name, da, l}
	return layered{c, x, r, f, made(t, r)}
}

// lookedFor answers by looking in how many documents p stands.
func lookedFor(c collection, p []byte) int {
	n := 0
	for _, d := range c.docs {
		if bytes.Contains(d, p) {
			n++
		}
	}
	return n
}

// wantPattern holds Docs of a pattern's range against looking.
func wantPattern(t *testing.T, c layered, p []byte) {
	t.Helper()
	a, b := c.f.Range(c.x.Pattern(p))
	if got, want := c.y.Docs(a, b), lookedFor(c.collection, p); got != want {
		t.Fatalf("%s: %d documents: %q, from %d ahead of %d: in %d, not %d", c.name, len(c.docs), p[:min(len(p), 20)], a, b, got, want)
	}
}

// patterns answers all unlike patterns of so many bytes at most that stand in a document.
func patterns(c collection, longest int) [][]byte {
	had := map[string]bool{}
	var ps [][]byte
	for _, d := range c.docs {
		for i := range d {
			for many := 1; many <= min(longest, len(d)-i); many++ {
				if p := d[i : i+many]; !had[string(p)] {
					had[string(p)] = true
					ps = append(ps, p)
				}
			}
		}
	}
	return ps
}

// checkPatterns holds Docs of all patterns of so many bytes at most that stand in a document, and of the like of them that may stand in none, against looking.
func checkPatterns(t *testing.T, c layered, longest int) {
	t.Helper()
	for _, p := range patterns(c.collection, longest) {
		wantPattern(t, c, p)
		wantPattern(t, c, append(slices.Clone(p), p[0]))
		wantPattern(t, c, append(slices.Clone(p), p[len(p)-1]+1))
	}
	for _, d := range c.docs {
		if len(d) > 0 {
			wantPattern(t, c, d)
			wantPattern(t, c, append(slices.Clone(d), d...))
		}
	}
}

// someCollections answers collections of few and of many documents.
func someCollections() []collection {
	all := make([]byte, 256)
	for i := range all {
		all[i] = byte(i)
	}
	return []collection{
		texts("the whole's example", "banana", "ananas", "nab"), texts("one", "abracadabra"), texts("one byte", "a"), texts("empty ones", "", "ab", "", "", "b", ""), texts("like ones", "abab", "abab", "abab", "bab"), texts("beginnings", "a", "ab", "aba", "abab", "ababa"), texts("ends", "ababa", "baba", "aba", "ba", "a"),
		texts("alike", "a", "aaaa", "aa", "aaaaaaaa", "aaa"), texts("bytes like ends' numbers", "\x00\x01\x02", "\x01\x00", "\x02\x02\x00\x01", "\x00"), texts("the greatest byte", "\xff\xff", "\xff\x00\xff", "\x00\xff\xff\xff"), texts("nothing in common", "abc", "def", "ghi", "jkl"),
		parted("each byte", all, 16), parted("two", scatteredBytes(300, 2, 'a', 1), 37), parted("three", scatteredBytes(400, 3, 0, 2), 11), parted("bytes", scatteredBytes(500, 256, 0, 3), 90), parted("one a document", scatteredBytes(60, 4, 'x', 4), 1),
	}
}

func TestExamplesOfTheWhole(t *testing.T) {
	c := lay(t, texts("the whole's example", "banana", "ananas", "nab"))
	for p, w := range map[string]struct{ docs, times int }{
		"an": {2, 4}, "a": {3, 7}, "n": {3, 5}, "b": {2, 2}, "s": {1, 1}, "na": {3, 5}, "ana": {2, 4}, "anan": {2, 2}, "nana": {2, 2}, "nas": {1, 1}, "ab": {1, 1}, "nab": {1, 1}, "banana": {1, 1}, "ananas": {1, 1}, "x": {0, 0}, "nn": {0, 0}, "sn": {0, 0}, "bananas": {0, 0}, "banana\x00": {0, 0},
	} {
		a, b := c.f.Range(c.x.Pattern([]byte(p)))
		if w.docs == 0 && (a != 0 || b != 0) {
			t.Errorf("%q: from %d ahead of %d", p, a, b)
		}
		times := 0
		for _, d := range c.docs {
			for i := range d {
				if bytes.HasPrefix(d[i:], []byte(p)) {
					times++
				}
			}
		}
		if got := c.y.Docs(a, b); got != w.docs || b-a != times || times != w.times {
			t.Errorf("%q: %d documents, %d places, not %d, %d (looked for: %d)", p, got, b-a, w.docs, w.times, times)
		}
	}
}

func TestEveryPatternOfSomeCollections(t *testing.T) {
	for _, c := range someCollections() {
		l := lay(t, c)
		checkPatterns(t, l, 12)
		if len(l.r.da) < 400 {
			checkAll(t, l.r, l.y, doublesBy(l.r.da, l.r.lcp))
		}
	}
}

func TestEveryPatternOfEveryShortCollection(t *testing.T) {
	for _, x := range []struct{ many, longest int }{{1, 7}, {2, 5}, {3, 3}, {4, 2}, {6, 1}} {
		var words [][]byte
		for n := range x.longest + 1 {
			every(n, 2, func(l []int) {
				b := make([]byte, n)
				for i, c := range l {
					b[i] = 'a' + byte(c)
				}
				words = append(words, b)
			})
		}
		every(x.many, len(words), func(l []int) {
			c := collection{name: "short"}
			for _, w := range l {
				c.docs = append(c.docs, words[w])
			}
			y := lay(t, c)
			for _, w := range words {
				if len(w) > 0 {
					wantPattern(t, y, w)
				}
			}
			checkPatterns(t, y, x.longest)
		})
	}
}

func TestEveryRangeOfSuffixesThatBeginAlike(t *testing.T) {
	// What each pattern's range is by layer 10's words: behind its first place all have as much in common, at it and behind it less.
	for _, c := range someCollections() {
		y := lay(t, c)
		for _, p := range patterns(c, 4) {
			a, b := y.f.Range(y.x.Pattern(p))
			if a >= b || slices.ContainsFunc(y.r.lcp[a+1:b], func(n int) bool { return n < len(p) }) || y.r.lcp[a] >= len(p) || b < len(y.r.lcp) && y.r.lcp[b] >= len(p) {
				t.Fatalf("%s: %q: from %d ahead of %d", c.name, p, a, b)
			}
			unlike := slices.Compact(slices.Sorted(slices.Values(y.r.da[a:b])))
			wantDocs(t, y.r, y.y, a, b, len(unlike))
		}
	}
}

func TestCollectionsOfAsMuchAsMayBe(t *testing.T) {
	again := func(s string, n int) []byte { return bytes.Repeat([]byte(s), n/len(s)+1)[:n] }
	uneven := collection{name: "one letter, uneven"}
	for d := range api.MaxDocs {
		uneven.docs = append(uneven.docs, again("a", d*2))
	}
	long := collection{"one long, many short", [][]byte{scatteredBytes(api.MaxText-255, 2, 'a', 21)}}
	for d := range api.MaxDocs - 1 {
		long.docs = append(long.docs, []byte{'a' + byte(d%3)})
	}
	for _, x := range []struct {
		collection
		longest int
	}{
		{parted("two letters", scatteredBytes(api.MaxText, 2, 'a', 22), 256), 7}, {parted("bytes", scatteredBytes(api.MaxText, 256, 0, 23), 256), 1}, {parted("like ones", again("abcab", api.MaxText), 256), 9}, {parted("one letter", again("a", api.MaxText), 256), 256}, {parted("one document", scatteredBytes(api.MaxText, 3, 'a', 24), api.MaxText), 5},
		{uneven, 510}, {long, 6}, {collection{"all empty but one", append(make([][]byte, api.MaxDocs-1), []byte("ab"))}, 2},
	} {
		checkPatterns(t, lay(t, x.collection), x.longest)
	}
}

func TestCollectionsWithoutBytes(t *testing.T) {
	for _, many := range []int{1, 2, 65, api.MaxDocs} {
		y := lay(t, collection{"no bytes", make([][]byte, many)})
		checkAll(t, y.r, y.y, make([]int, many))
		wantPattern(t, y, []byte("a"))
	}
	x, e := text.New()
	if e != api.OK {
		t.Fatal(e)
	}
	da, e := docs.Array(x, nil)
	if e != api.OK {
		t.Fatal(e)
	}
	l, e := lcp.Array(nil, nil)
	if e != api.OK {
		t.Fatal(e)
	}
	check(t, rows{"no documents", da, l}, made(t, rows{"no documents", da, l}), nil)
}

// A nil tally.

func TestNilTally(t *testing.T) {
	var y *Tally
	places := append([]int{0, 1, 2, 64, most}, extremes...)
	for _, a := range places {
		if n := y.Doubles(a); n != 0 {
			t.Errorf("Doubles(%d): %d", a, n)
		}
		for _, b := range places {
			if n := y.Docs(a, b); n != 0 {
				t.Errorf("Docs(%d, %d): %d", a, b, n)
			}
		}
	}
}

// What is handed in.

func TestTheListsAreLeftAsTheyAre(t *testing.T) {
	for _, r := range someRows() {
		doubles := doublesBy(r.da, r.lcp)
		for _, fill := range []int{0, 1, 99, -1, math.MaxInt, math.MinInt} {
			// The spare room is none of the rows': whatever stands in it, the answers stay.
			da, l := withRoom(r.da, fill), withRoom(r.lcp, fill)
			wasDa, wasL := slices.Clone(da[:cap(da)]), slices.Clone(l[:cap(l)])
			stays := func(call string) {
				t.Helper()
				if !slices.Equal(da[:cap(da)], wasDa) || !slices.Equal(l[:cap(l)], wasL) {
					t.Fatalf("%s: %s changed a list", r.name, call)
				}
			}
			y := made(t, rows{r.name, da, l})
			stays("New")
			y.Doubles(len(da) / 2)
			stays("Doubles")
			y.Docs(0, len(da))
			stays("Docs")
			check(t, r, y, doubles)
			stays("a call")
			refused(t, da, l[:len(l)+1])
			refused(t, da[:len(da)+1], l)
			stays("New that refused")
		}
	}
}

func TestTheTallyIsOfTheListsAsTheyWere(t *testing.T) {
	for _, r := range someRows() {
		doubles := doublesBy(r.da, r.lcp)
		da, l := withRoom(r.da, 1), withRoom(r.lcp, 2)
		y := made(t, rows{r.name, da, l})
		for _, x := range append([]int{7}, ints...) {
			spoil(da, x)
			check(t, r, y, doubles)
			spoil(l, x)
			check(t, r, y, doubles)
		}
		for i := range da {
			da[i], l[i] = i, -i
		}
		_, _ = append(da, 5), append(l, 6)
		check(t, r, y, doubles)
	}
}

func TestOneListAsBoth(t *testing.T) {
	for n := range 7 {
		every(n, 3, func(l []int) {
			r := rows{"one list", l, l}
			check(t, r, made(t, r), doublesBy(l, l))
		})
	}
	l := rising(10)
	check(t, rows{"overlapping", l[:7], l[3:]}, made(t, rows{"overlapping", l[:7], l[3:]}), make([]int, 7))
}

// Objects beside one another.

func TestTalliesBesideOneAnother(t *testing.T) {
	all := append(someRows(), longRows(20)...)
	tallies := make([]*Tally, len(all))
	for k, r := range all {
		tallies[k] = made(t, r)
	}
	for k, r := range slices.Backward(all) {
		refused(t, r.da, append(slices.Clone(r.lcp), 0))
		check(t, r, tallies[k], doublesBy(r.da, r.lcp))
	}
}

func TestAnswersDontHangOnThoseAhead(t *testing.T) {
	r := rows{"scattered", scattered(200, 6, 41), scattered(200, 9, 42)}
	y, doubles := made(t, r), doublesBy(r.da, r.lcp)
	for i := range 400 {
		a, b := i*7919%203-1, i*104729%205-1
		left, many := y.Docs(a, b), y.Doubles(a)
		y.Docs(b, a)
		y.Docs(math.MinInt, math.MaxInt)
		y.Doubles(b)
		wantDocs(t, r, y, a, b, left)
		wantDoubles(t, r, y, a, many)
		wantDocs(t, r, made(t, r), a, b, left)
	}
	checkAll(t, r, y, doubles)
	checkAll(t, r, y, doubles)
}

// The chapter's example.

func TestTheExample(t *testing.T) {
	y := made(t, rows{"the example", []int{0, 1, 0, 0, 1}, []int{0, 0, 0, 2, 1}})
	for i, many := range []int{0, 1, 1, 1, 0} {
		if got := y.Doubles(i); got != many {
			t.Errorf("Doubles(%d): %d, not %d", i, got, many)
		}
	}
	if got := y.Docs(2, 5); got != 2 {
		t.Errorf("Docs(2, 5): %d", got)
	}
}
