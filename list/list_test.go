package list

import (
	"bytes"
	"math"
	"slices"
	"testing"

	"colophon/api"
	"colophon/docs"
	"colophon/find"
	"colophon/suffix"
	"colophon/text"
)

// extremes are places of no row, and numbers that rows may have.
var extremes = []int{
	-1, -2, -3, -32, -33, -64, -api.MaxInts, math.MinInt32, math.MinInt, math.MinInt + 1,
	api.MaxInts, api.MaxInts + 1, 1 << 24, math.MaxInt32, 1 << 32, 1<<32 + 1, math.MaxInt - 1, math.MaxInt,
}

// ints are numbers that rows may have.
var ints = []int{0, math.MinInt, math.MaxInt, -1, 1}

// row is numbers by a name.
type row struct {
	name string
	da   []int
}

// numbers answers n numbers by a rule.
func numbers(n int, rule func(i int) int) []int {
	l := make([]int, n)
	for i := range l {
		l[i] = rule(i)
	}
	return l
}

// rising answers the numbers below n.
func rising(n int) []int {
	return numbers(n, func(i int) int { return i })
}

// falling answers the numbers below n, the greatest first.
func falling(n int) []int {
	return numbers(n, func(i int) int { return n - 1 - i })
}

// scattered answers n numbers below bound that look like no rule.
func scattered(n, bound int, seed uint64) []int {
	x := seed
	return numbers(n, func(int) int {
		x = x*6364136223846793005 + 1442695040888963407
		return int((x >> 33) % uint64(bound))
	})
}

// of answers the numbers among these that l counts.
func of(l, among []int) []int {
	return numbers(len(l), func(i int) int { return among[l[i]] })
}

// with answers l with x at this place.
func with(l []int, at, x int) []int {
	k := slices.Clone(l)
	k[at] = x
	return k
}

// withRoom answers a list like l, with a spare room filled by fill.
func withRoom(l []int, fill int) []int {
	k := make([]int, len(l), len(l)+5)
	copy(k, l)
	spoil(k[len(k):cap(k)], fill)
	return k
}

// spoil lays x everywhere in l, its spare room too.
func spoil(l []int, x int) {
	l = l[:cap(l)]
	for i := range l {
		l[i] = x
	}
}

// every calls f with each list of n numbers below bound.
func every(n, bound int, f func(l []int)) {
	l := make([]int, n)
	for {
		f(l)
		i := 0
		for ; i < n && l[i] == bound-1; i++ {
			l[i] = 0
		}
		if i == n {
			return
		}
		l[i]++
	}
}

// few answers the first numbers of l, so that a fault's text stays short.
func few(l []int) []int {
	return l[:min(len(l), 20)]
}

// added answers a rising list with x in it, which it may have already.
func added(l []int, x int) []int {
	at, had := slices.BinarySearch(l, x)
	if had {
		return l
	}
	return slices.Insert(l, at, x)
}

// unlikeBy tells by the chapter's words which unlike numbers a range has, rising, by looking at each place.
func unlikeBy(da []int, a, b int) []int {
	var l []int
	for i, d := range da {
		if i >= a && i < b {
			l = added(l, d)
		}
	}
	return l
}

// rises tells whether each number of l is greater than the one ahead of it, so that no two are alike.
func rises(l []int) bool {
	for i := 1; i < len(l); i++ {
		if l[i-1] >= l[i] {
			return false
		}
	}
	return true
}

// within tells whether each number of l is one of all, which rise.
func within(l, all []int) bool {
	for _, x := range l {
		if _, has := slices.BinarySearch(all, x); !has {
			return false
		}
	}
	return true
}

// made answers the lister of a row.
func made(t *testing.T, r row) *Lister {
	t.Helper()
	l, e := New(r.da)
	if e != api.OK || l == nil {
		t.Fatalf("%s: New of %d numbers: %v, %v", r.name, len(r.da), l != nil, e)
	}
	return l
}

// refused holds that New refuses this.
func refused(t *testing.T, da []int) {
	t.Helper()
	if l, e := New(da); l != nil || e != api.ErrArg {
		t.Errorf("New of %d numbers: %v, %v", len(da), l != nil, e)
	}
}

// wantDocs holds one answer of Docs.
func wantDocs(t *testing.T, r row, l *Lister, a, b int, all []int) {
	t.Helper()
	if got := l.Docs(a, b); !slices.Equal(got, all) {
		t.Fatalf("%s: %d numbers, %v: Docs(%d, %d): %d, %v, not %d, %v", r.name, len(r.da), few(r.da), a, b, len(got), few(got), len(all), few(all))
	}
}

// wantSome holds one answer of Some of a range that has all these.
func wantSome(t *testing.T, r row, l *Lister, a, b, most int, all []int) {
	t.Helper()
	got := l.Some(a, b, most)
	if len(got) != max(0, min(most, len(all))) || !rises(got) || !within(got, all) {
		t.Fatalf("%s: %d numbers, %v: Some(%d, %d, %d): %d, %v, of %d, %v", r.name, len(r.da), few(r.da), a, b, most, len(got), few(got), len(all), few(all))
	}
}

// mosts answers how many may be asked for at most where there are n: none, one, some, beside n, many, and the greatest and least ints.
func mosts(n int) []int {
	l := []int{math.MinInt, math.MinInt + 1, -api.MaxInts, -2, -1, 0, 1, 2, n / 2, n - 2, n - 1, n, n + 1, n + 2, 2 * n, api.MaxInts, math.MaxInt32, math.MaxInt - 1, math.MaxInt}
	slices.Sort(l)
	return slices.Compact(l)
}

// wantRange holds Docs and Some of a range that has all these.
func wantRange(t *testing.T, r row, l *Lister, a, b int, all []int) {
	t.Helper()
	wantDocs(t, r, l, a, b, all)
	for _, most := range mosts(len(all)) {
		wantSome(t, r, l, a, b, most, all)
	}
}

// spots answers places of which a row of n numbers may be asked: the first and the last ones, those beside them, those in the middle, and the greatest and least ints.
func spots(n int, more ...int) []int {
	l := append([]int{-2, -1, 0, 1, 2, n / 3, n / 2, n/2 + 1, n - 2, n - 1, n, n + 1, n + 2, 2 * n, math.MinInt, math.MaxInt}, more...)
	slices.Sort(l)
	return slices.Compact(l)
}

// check holds a lister of a short row against looking, in all ranges, some far outside.
func check(t *testing.T, r row, l *Lister) {
	t.Helper()
	places := spots(len(r.da), rising(len(r.da))...)
	for _, a := range places {
		for _, b := range places {
			wantRange(t, r, l, a, b, unlikeBy(r.da, a, b))
		}
	}
}

// checkNear holds a lister of a short row against looking, in all ranges, some just outside, and with every most that is near.
func checkNear(t *testing.T, r row, l *Lister) {
	t.Helper()
	n := len(r.da)
	for a := -1; a <= n+1; a++ {
		for b := -1; b <= n+1; b++ {
			all := unlikeBy(r.da, a, b)
			wantDocs(t, r, l, a, b, all)
			for most := -1; most <= n+1; most++ {
				wantSome(t, r, l, a, b, most, all)
			}
		}
	}
}

// checkAll holds a lister of a long row against looking, in all ranges, as a range's end goes on.
func checkAll(t *testing.T, r row, l *Lister) {
	t.Helper()
	n := len(r.da)
	for a := range n {
		var all []int
		for b := a; b <= n; b++ {
			wantDocs(t, r, l, a, b, all)
			wantSome(t, r, l, a, b, (a+b)%(len(all)+3), all)
			if b < n {
				all = added(all, r.da[b])
			}
		}
	}
}

// kinds answers rows of n numbers of many kinds: alike, unlike, rising, falling, below 0, of the greatest and the least ints.
func kinds(n int) []row {
	least, greatest := math.MinInt, math.MaxInt
	return []row{
		{"noughts", make([]int, n)}, {"the least int", slices.Repeat([]int{least}, n)}, {"the greatest int", slices.Repeat([]int{greatest}, n)},
		{"rising", rising(n)}, {"falling", falling(n)}, {"rising from the least int on", numbers(n, func(i int) int { return least + i })}, {"falling from the greatest int on", numbers(n, func(i int) int { return greatest - i })}, {"unlike", numbers(n, func(i int) int { return i * 7919 % 104729 })}, {"unlike, below 0", numbers(n, func(i int) int { return -1 - i*7919%104729 })},
		{"two in turns", numbers(n, func(i int) int { return i % 2 })}, {"three in turns", numbers(n, func(i int) int { return i % 3 << 32 })}, {"the greatest and the least int in turns", numbers(n, func(i int) int { return []int{greatest, least}[i%2] })},
		{"rounds", numbers(n, func(i int) int { return i % 37 })}, {"falling rounds", numbers(n, func(i int) int { return -i % 32 })}, {"twice", numbers(n, func(i int) int { return i % (n/2 + 1) })}, {"runs", numbers(n, func(i int) int { return i / 7 })}, {"falling runs", numbers(n, func(i int) int { return -i / 40 })},
		{"a hill", numbers(n, func(i int) int { return min(i, n-1-i) })}, {"a dale", numbers(n, func(i int) int { return max(i, n-1-i) })}, {"one other in the middle", with(make([]int, n), n/2, -1)}, {"one other at the end", with(make([]int, n), n-1, least)}, {"one other at the beginning", with(make([]int, n), 0, greatest)},
		{"scattered, any ints", of(scattered(n, len(ints), uint64(n)), ints)}, {"scattered, two", scattered(n, 2, uint64(n)+1)}, {"scattered, few", scattered(n, 9, uint64(n)+2)}, {"scattered, many", scattered(n, n+1, uint64(n)+3)}, {"scattered, unlike", scattered(n, 1<<30, uint64(n)+4)},
	}
}

// longRows answers rows of many lengths and kinds.
func longRows(lengths ...int) []row {
	var all []row
	for _, n := range lengths {
		all = append(all, kinds(n)...)
	}
	return all
}

// someRows answers rows of few and of many numbers.
func someRows() []row {
	return []row{
		{"none", nil}, {"one", []int{5}}, {"two alike", []int{3, 3}}, {"two unlike", []int{4, 3}}, {"the example", []int{2, 0, 2, 2, 1}}, {"the greatest and least ints", []int{math.MaxInt, math.MinInt, 0, math.MaxInt, -1, math.MinInt}},
		{"alike", make([]int, 40)}, {"rising", rising(35)}, {"falling", falling(34)}, {"scattered", scattered(45, 6, 1)}, {"any ints", of(scattered(38, 5, 3), ints)}, {"a hill", numbers(36, func(i int) int { return min(i, 35-i) })},
	}
}

// P17.1

func TestNewOfNoNumbers(t *testing.T) {
	for _, da := range [][]int{nil, {}, make([]int, 0, 7), []int{1, 2, 3}[:0]} {
		r := row{"none", da}
		l := made(t, r)
		check(t, r, l)
		places := append([]int{0, 1, 2}, extremes...)
		for _, a := range places {
			for _, b := range places {
				wantDocs(t, r, l, a, b, nil)
				wantSome(t, r, l, a, b, 1, nil)
				wantSome(t, r, l, a, b, math.MaxInt, nil)
			}
		}
	}
}

func TestNewOfOneNumber(t *testing.T) {
	for _, d := range append([]int{0, 1, 2, 255, 256}, extremes...) {
		r := row{"one", []int{d}}
		l := made(t, r)
		check(t, r, l)
		wantDocs(t, r, l, 0, 1, []int{d})
		wantDocs(t, r, l, math.MinInt, math.MaxInt, []int{d})
		wantDocs(t, r, l, 1, 2, nil)
		wantDocs(t, r, l, -1, 0, nil)
		wantSome(t, r, l, 0, 1, 1, []int{d})
	}
}

func TestNewTakesAnyNumbers(t *testing.T) {
	least, greatest := math.MinInt, math.MaxInt
	for _, x := range []struct{ da, all []int }{
		{[]int{greatest, least}, []int{least, greatest}}, {[]int{least, greatest}, []int{least, greatest}}, {[]int{greatest, greatest}, []int{greatest}}, {[]int{least, least, least}, []int{least}}, {[]int{greatest, greatest - 1}, []int{greatest - 1, greatest}}, {[]int{least + 1, least}, []int{least, least + 1}},
		{[]int{0, least, -1, 0}, []int{least, -1, 0}}, {[]int{1, greatest, -1, 1}, []int{-1, 1, greatest}}, {[]int{-1, -2, -3, -2, -1}, []int{-3, -2, -1}}, {[]int{least, 0, greatest, 0, least}, []int{least, 0, greatest}},
		{[]int{1 << 32, 0, 1, 1<<32 + 1}, []int{0, 1, 1 << 32, 1<<32 + 1}}, {[]int{-1 << 32, 0}, []int{-1 << 32, 0}}, {[]int{1 << 31, -1 << 31, 1<<31 - 1}, []int{-1 << 31, 1<<31 - 1, 1 << 31}}, {[]int{-1, 1 << 62, -1 << 62, -1}, []int{-1 << 62, -1, 1 << 62}}, {[]int{api.MaxInts, api.MaxDocs, -api.MaxInts, api.MaxInts + 1}, []int{-api.MaxInts, api.MaxDocs, api.MaxInts, api.MaxInts + 1}},
	} {
		r := row{"any", x.da}
		l := made(t, r)
		wantRange(t, r, l, 0, len(x.da), x.all)
		check(t, r, l)
	}
}

func TestNewRefusesMoreThanMayBe(t *testing.T) {
	da := make([]int, api.MaxInts+1, 2*api.MaxInts)
	for _, n := range []int{api.MaxInts + 1, api.MaxInts + 2, api.MaxInts + 64, 2*api.MaxInts - 1, 2 * api.MaxInts} {
		refused(t, da[:n])
	}
	refused(t, rising(api.MaxInts+1))
	r := row{"as many as may be, with room for more", da[:api.MaxInts]}
	l := made(t, r)
	wantDocs(t, r, l, 0, api.MaxInts+1, []int{0})
	// A refusal has turned nothing in what was made ahead of it.
	da[9] = -1
	refused(t, da)
	wantDocs(t, r, l, 0, api.MaxInts+1, []int{0})
	wantSome(t, r, l, 5, 20, 2, []int{0})
}

func TestNewOfAsManyAsMayBe(t *testing.T) {
	const n, half = api.MaxInts, api.MaxInts / 2
	up := rising(n)
	clip := func(i int) int { return min(max(i, 0), n) }
	alike := func(a, b int) []int { return up[:min(b-a, 1)] }
	for _, x := range []struct {
		name   string
		da     []int
		unlike func(a, b int) []int // of a range that is there and isn't empty
	}{
		{"alike", make([]int, n), alike}, {"rising", up, func(a, b int) []int { return up[a:b] }}, {"falling", falling(n), func(a, b int) []int { return up[n-b : n-a] }},
		{"pairs", numbers(n, func(i int) int { return i / 2 }), func(a, b int) []int { return up[a/2 : (b+1)/2] }},
		{"a hill", numbers(n, func(i int) int { return min(i, n-1-i) }), func(a, b int) []int {
			if b <= half {
				return up[a:b]
			}
			return up[min(a, n-b):min(half, n-a)]
		}},
	} {
		r := row{x.name, x.da}
		l := made(t, r)
		for _, w := range []struct{ a, b int }{
			{-1, 1}, {0, 1}, {n - 1, n}, {n - 1, n + 1}, {n - 3, math.MaxInt}, {half - 50, half + 70}, {half, half + 1}, {half - 1, half + 1}, {5, 9000}, {n - 9000, n - 5},
		} {
			wantRange(t, r, l, w.a, w.b, x.unlike(clip(w.a), clip(w.b)))
		}
		all := x.unlike(0, n)
		wantDocs(t, r, l, math.MinInt, math.MaxInt, all)
		wantSome(t, r, l, 0, n, len(all)-1, all)
		for _, most := range []int{-1, 0, 1, 7, 1000} {
			wantSome(t, r, l, 1, n-1, most, x.unlike(1, n-1))
		}
		for _, w := range []struct{ a, b int }{{n, n}, {n, n + 1}, {n, math.MaxInt}, {-1, 0}, {math.MinInt, 0}, {half, half}, {half + 1, half}, {math.MaxInt, math.MinInt}} {
			wantRange(t, r, l, w.a, w.b, nil)
		}
	}
}

// P17.2

func TestTheExamples(t *testing.T) {
	r := row{"the example", []int{2, 0, 2, 2, 1}}
	l := made(t, r)
	wantDocs(t, r, l, 0, 4, []int{0, 2})
	wantDocs(t, r, l, 2, 9, []int{1, 2})
}

func TestDocsWrittenOut(t *testing.T) {
	least, greatest := math.MinInt, math.MaxInt
	r := row{"written out", []int{7, 3, 3, -5, 7, 3, 9, -5}}
	l := made(t, r)
	for _, x := range []struct {
		a, b int
		all  []int
	}{
		{0, 8, []int{-5, 3, 7, 9}}, {0, 7, []int{-5, 3, 7, 9}}, {0, 6, []int{-5, 3, 7}}, {0, 5, []int{-5, 3, 7}}, {0, 4, []int{-5, 3, 7}}, {0, 3, []int{3, 7}}, {0, 2, []int{3, 7}}, {1, 8, []int{-5, 3, 7, 9}}, {1, 4, []int{-5, 3}}, {1, 6, []int{-5, 3, 7}}, {2, 7, []int{-5, 3, 7, 9}}, {4, 7, []int{3, 7, 9}}, {5, 8, []int{-5, 3, 9}},
		// Of one place, and of two.
		{0, 1, []int{7}}, {1, 2, []int{3}}, {2, 3, []int{3}}, {3, 4, []int{-5}}, {4, 5, []int{7}}, {6, 7, []int{9}}, {7, 8, []int{-5}}, {1, 3, []int{3}}, {2, 4, []int{-5, 3}}, {3, 5, []int{-5, 7}}, {5, 7, []int{3, 9}}, {6, 8, []int{-5, 9}},
		// What of a range isn't there doesn't count.
		{-1, 8, []int{-5, 3, 7, 9}}, {-1, 1, []int{7}}, {-9, 2, []int{3, 7}}, {least, 1, []int{7}}, {least, 3, []int{3, 7}}, {least + 1, 8, []int{-5, 3, 7, 9}}, {0, 9, []int{-5, 3, 7, 9}}, {7, 9, []int{-5}}, {7, greatest, []int{-5}}, {6, greatest - 1, []int{-5, 9}}, {-1, 9, []int{-5, 3, 7, 9}}, {least, greatest, []int{-5, 3, 7, 9}},
		// No place at all.
		{0, 0, nil}, {3, 3, nil}, {7, 7, nil}, {8, 8, nil}, {8, 9, nil}, {8, greatest, nil}, {9, 20, nil}, {greatest - 1, greatest, nil}, {greatest, greatest, nil}, {-1, 0, nil}, {-9, 0, nil}, {-9, -1, nil}, {-2, -2, nil}, {least, 0, nil}, {least, -1, nil}, {least, least, nil}, {least, least + 1, nil},
		{1, 0, nil}, {4, 2, nil}, {8, 0, nil}, {8, 7, nil}, {9, 8, nil}, {0, -1, nil}, {4, -1, nil}, {4, least, nil}, {0, least, nil}, {greatest, 0, nil}, {greatest, 8, nil}, {greatest, -1, nil}, {greatest, least, nil}, {-1, -2, nil}, {greatest, greatest - 1, nil}, {least + 1, least, nil},
	} {
		wantRange(t, r, l, x.a, x.b, x.all)
		if looked := unlikeBy(r.da, x.a, x.b); !slices.Equal(looked, x.all) {
			t.Errorf("%d, %d: by looking %v, not %v", x.a, x.b, looked, x.all)
		}
	}
}

func TestEveryShortRow(t *testing.T) {
	for _, x := range []struct{ n, bound int }{
		{0, 1}, {1, 1}, {1, 3}, {2, 3}, {3, 3}, {3, 4}, {4, 4}, {5, 3}, {5, 5}, {6, 2}, {6, 4}, {7, 3}, {8, 2}, {9, 2}, {10, 2},
	} {
		every(x.n, x.bound, func(da []int) {
			r := row{"short", da}
			checkNear(t, r, made(t, r))
		})
	}
}

func TestEveryShortRowOfTheGreatestAndTheLeastInts(t *testing.T) {
	for n := range 5 {
		every(n, len(ints), func(da []int) {
			r := row{"short, any ints", of(da, ints)}
			check(t, r, made(t, r))
		})
	}
}

func TestShortRowsAtTheEndOfLongOnes(t *testing.T) {
	for _, ahead := range []int{30, 31, 32, 63, 64} {
		every(4, 4, func(da []int) {
			r := row{"short, behind long", append(slices.Repeat([]int{1}, ahead), da...)}
			l := made(t, r)
			for a := ahead - 3; a <= len(r.da); a++ {
				for b := a; b <= len(r.da)+1; b++ {
					wantRange(t, r, l, a, b, unlikeBy(r.da, a, b))
				}
				wantRange(t, r, l, 0, a, unlikeBy(r.da, 0, a))
			}
		})
	}
}

func TestEachRangeOfLongRows(t *testing.T) {
	for _, r := range longRows(1, 2, 9, 31, 32, 33, 64, 65, 100) {
		checkAll(t, r, made(t, r))
	}
}

func TestEachRangeOfVeryLongRows(t *testing.T) {
	for _, r := range []row{
		{"two", scattered(700, 2, 13)}, {"few", scattered(600, 20, 11)}, {"as many as documents may be", scattered(300, api.MaxDocs, 12)}, {"rounds", numbers(400, func(i int) int { return i % 90 })}, {"runs", numbers(600, func(i int) int { return i / 30 })},
	} {
		checkAll(t, r, made(t, r))
	}
}

func TestLongRowsHeldAgainstLooking(t *testing.T) {
	for _, r := range longRows(33, 64, 257, 1000) {
		l, n := made(t, r), len(r.da)
		places := spots(n, 31, 32, 33, 63, 64, 65, n-31, n-32, n-33)
		for _, a := range places {
			for _, b := range places {
				wantRange(t, r, l, a, b, unlikeBy(r.da, a, b))
			}
		}
	}
}

func TestOneOtherNumberAtEachPlace(t *testing.T) {
	const n = 130
	for at := range n {
		r := row{"one other", with(make([]int, n), at, 4)}
		l := made(t, r)
		for a := 0; a < n; a += 3 {
			for b := a + 1; b <= n; b += 2 {
				all := []int{0}
				if a <= at && at < b {
					all = []int{0, 4}
				}
				if a == at && b == a+1 {
					all = []int{4}
				}
				wantDocs(t, r, l, a, b, all)
				wantSome(t, r, l, a, b, 1, all)
			}
		}
	}
}

func TestANumberIsToldOnceWhereverItStandsAgain(t *testing.T) {
	const n = 60
	for first := range n {
		for second := first + 1; second < n; second++ {
			r := row{"one twice", with(rising(n), second, first)}
			l := made(t, r)
			all := slices.Delete(rising(n), second, second+1)
			wantDocs(t, r, l, 0, n, all)
			wantDocs(t, r, l, first, n, all[first:])
			wantDocs(t, r, l, first, second+1, all[first:second])
			wantDocs(t, r, l, second, second+1, []int{first})
			// Of ranges between, the first of the two doesn't count.
			wantDocs(t, r, l, first+1, second+1, slices.Sorted(slices.Values(r.da[first+1:second+1])))
			wantDocs(t, r, l, first+1, second, all[first+1:second])
			wantDocs(t, r, l, first+1, n, slices.Sorted(slices.Values(r.da[first+1:])))
		}
	}
}

func TestPlacesFarOutside(t *testing.T) {
	for _, r := range []row{{"none", nil}, {"one", []int{4}}, {"some", []int{3, 1, 2, 1}}, {"many", scattered(150, 40, 5)}, {"any ints", of(scattered(80, 5, 6), ints)}} {
		l, n := made(t, r), len(r.da)
		places := append([]int{0, 1, n / 2, n - 1, n, n + 1, n + 31, n + 32, n + 33, 2 * n, -n, -n - 1}, extremes...)
		for _, a := range places {
			for _, b := range places {
				wantRange(t, r, l, a, b, unlikeBy(r.da, a, b))
			}
		}
	}
}

func TestManyRangesOfALongRow(t *testing.T) {
	// Few numbers among many places: an answer that looked at each place would take too long.
	r := row{"few among many", scattered(api.MaxInts, 3, 51)}
	l := made(t, r)
	all := []int{0, 1, 2}
	for i := range 100000 {
		a, b := i, api.MaxInts-2*i
		wantDocs(t, r, l, a, b, all)
		wantSome(t, r, l, a, b, i%4, all)
	}
}

// P17.3

func TestSomeWrittenOut(t *testing.T) {
	least, greatest := math.MinInt, math.MaxInt
	r := row{"written out", []int{4, 1, 4, 8, 1, 6, 8}}
	l := made(t, r)
	for _, x := range []struct{ a, b, most, many int }{
		{0, 7, least, 0}, {0, 7, least + 1, 0}, {0, 7, -1, 0}, {0, 7, 0, 0}, {0, 7, 1, 1}, {0, 7, 2, 2}, {0, 7, 3, 3}, {0, 7, 4, 4}, {0, 7, 5, 4}, {0, 7, greatest, 4}, {0, 7, greatest - 1, 4},
		{0, 3, 1, 1}, {0, 3, 2, 2}, {0, 3, 3, 2}, {2, 3, 1, 1}, {2, 3, 0, 0}, {2, 3, 9, 1}, {-4, 2, 1, 1}, {-4, 2, 2, 2}, {-4, 2, 7, 2}, {5, 99, 1, 1}, {5, 99, 2, 2}, {5, 99, 3, 2}, {least, greatest, 3, 3}, {least, greatest, greatest, 4}, {least, greatest, least, 0},
		{3, 3, 1, 0}, {3, 3, greatest, 0}, {4, 2, 1, 0}, {4, 2, greatest, 0}, {7, 9, 5, 0}, {-3, 0, 5, 0}, {greatest, least, greatest, 0}, {greatest, greatest, 1, 0}, {least, least, 1, 0},
	} {
		got := l.Some(x.a, x.b, x.most)
		if len(got) != x.many {
			t.Errorf("Some(%d, %d, %d): %v, not %d", x.a, x.b, x.most, got, x.many)
		}
		wantSome(t, r, l, x.a, x.b, x.most, unlikeBy(r.da, x.a, x.b))
	}
	if got := l.Some(0, 7, 4); !slices.Equal(got, []int{1, 4, 6, 8}) {
		t.Errorf("%v", got)
	}
	if got := l.Some(4, 7, 2); len(got) != 2 || got[0] >= got[1] || got[0] != 1 && got[0] != 6 || got[1] != 6 && got[1] != 8 {
		t.Errorf("%v", got)
	}
}

func TestEveryMostOfLongRows(t *testing.T) {
	for _, r := range longRows(5, 33, 90) {
		l, n := made(t, r), len(r.da)
		for _, w := range []struct{ a, b int }{{0, n}, {1, n}, {0, n - 1}, {n / 3, n - n/4}, {-7, n + 7}, {n / 2, n/2 + 1}, {math.MinInt, math.MaxInt}} {
			all := unlikeBy(r.da, w.a, w.b)
			for most := -2; most <= n+2; most++ {
				wantSome(t, r, l, w.a, w.b, most, all)
			}
		}
	}
}

func TestSomeOfAllIsDocs(t *testing.T) {
	for _, r := range append(longRows(3, 40, 140), someRows()...) {
		l, n := made(t, r), len(r.da)
		for _, a := range spots(n) {
			for _, b := range spots(n) {
				all := l.Docs(a, b)
				for _, most := range []int{max(1, len(all)), len(all) + 1, api.MaxInts, math.MaxInt} {
					if got := l.Some(a, b, most); !slices.Equal(got, all) {
						t.Fatalf("%s: Some(%d, %d, %d): %v, but Docs: %v", r.name, a, b, most, few(got), few(all))
					}
				}
			}
		}
	}
}

// A nil lister.

func TestNilLister(t *testing.T) {
	var l *Lister
	places := append([]int{0, 1, 2, 64}, extremes...)
	for _, a := range places {
		for _, b := range places {
			if d := l.Docs(a, b); len(d) != 0 {
				t.Errorf("Docs(%d, %d): %v", a, b, d)
			}
			for _, most := range mosts(3) {
				if d := l.Some(a, b, most); len(d) != 0 {
					t.Errorf("Some(%d, %d, %d): %v", a, b, most, d)
				}
			}
		}
	}
}

// What is handed in, and out.

func TestTheListIsLeftAsItIs(t *testing.T) {
	for _, r := range someRows() {
		for _, fill := range []int{0, 1, 99, -1, math.MaxInt, math.MinInt} {
			// The spare room is none of the row's: whatever stands in it, the answers stay.
			da := withRoom(r.da, fill)
			was := slices.Clone(da[:cap(da)])
			stays := func(call string) {
				t.Helper()
				if !slices.Equal(da[:cap(da)], was) {
					t.Fatalf("%s: %s changed the list", r.name, call)
				}
			}
			l := made(t, row{r.name, da})
			stays("New")
			l.Docs(0, len(da))
			stays("Docs")
			l.Some(0, len(da), 2)
			stays("Some")
			check(t, r, l)
			stays("a call")
		}
	}
	long := slices.Repeat([]int{3, 9, 3}, api.MaxInts/3+1)
	was := slices.Clone(long)
	refused(t, long)
	if !slices.Equal(long, was) {
		t.Errorf("New that refused changed the list")
	}
}

func TestTheListerIsOfTheListAsItWas(t *testing.T) {
	for _, r := range someRows() {
		da := withRoom(r.da, 1)
		l := made(t, row{r.name, da})
		for _, x := range append([]int{7}, ints...) {
			spoil(da, x)
			check(t, r, l)
		}
		for i := range da {
			da[i] = i
		}
		_ = append(da, 5)
		check(t, r, l)
	}
}

func TestAnswersAreNewMemory(t *testing.T) {
	for _, r := range append(longRows(33, 70), someRows()...) {
		l, n := made(t, r), len(r.da)
		all, half := unlikeBy(r.da, 0, n), unlikeBy(r.da, 0, n/2)
		for _, x := range append([]int{7, n}, ints...) {
			first, second, third, fourth := l.Docs(0, n), l.Some(0, n, n), l.Docs(0, n/2), l.Docs(0, n)
			for _, handed := range [][]int{first, second, third} {
				spoil(handed, x)
			}
			if !slices.Equal(fourth, all) {
				t.Fatalf("%s: an answer changed another one: %v", r.name, few(fourth))
			}
			wantRange(t, r, l, 0, n, all)
			wantRange(t, r, l, 0, n/2, half)
		}
	}
	for _, da := range [][]int{{0}, {5, 5}, {2, 0, 2, 2, 1}} {
		l := made(t, row{"short", da})
		spoil(l.Docs(0, 1), 77)
		spoil(l.Some(0, len(da), 1), 78)
		spoil(l.Docs(math.MinInt, math.MaxInt), 79)
		check(t, row{"short", da}, l)
	}
}

// Objects beside one another.

func TestListersBesideOneAnother(t *testing.T) {
	all := append(someRows(), longRows(20)...)
	listers := make([]*Lister, len(all))
	for k, r := range all {
		listers[k] = made(t, r)
	}
	for k, r := range slices.Backward(all) {
		check(t, r, listers[k])
	}
}

func TestListersOfOneList(t *testing.T) {
	da := scattered(40, 7, 61)
	whole, ahead, behind := made(t, row{"whole", da}), made(t, row{"ahead", da[:25]}), made(t, row{"behind", da[15:]})
	for range 2 {
		check(t, row{"whole", da}, whole)
		check(t, row{"ahead", da[:25]}, ahead)
		check(t, row{"behind", da[15:]}, behind)
	}
}

func TestAnswersDontHangOnThoseAhead(t *testing.T) {
	r := row{"scattered", scattered(200, 12, 41)}
	l := made(t, r)
	for i := range 400 {
		a, b, most := i*7919%203-1, i*104729%205-1, i%9
		all, some := l.Docs(a, b), l.Some(a, b, most)
		l.Docs(b, a)
		l.Some(b, a, most+1)
		l.Docs(math.MinInt, math.MaxInt)
		l.Some(0, 200, 1)
		for _, x := range []*Lister{l, made(t, r)} {
			if !slices.Equal(x.Docs(a, b), all) || !slices.Equal(x.Some(a, b, most), some) {
				t.Fatalf("%d, %d, %d: %v and %v, then %v and %v", a, b, most, all, some, x.Docs(a, b), x.Some(a, b, most))
			}
		}
	}
	checkAll(t, r, l)
	checkAll(t, r, l)
}

// The collection's own rows.

// collection is documents by a name.
type collection struct {
	name string
	docs [][]byte
}

// texts answers a collection of these documents.
func texts(name string, docs ...string) collection {
	c := collection{name: name}
	for _, d := range docs {
		c.docs = append(c.docs, []byte(d))
	}
	return c
}

// parted answers documents of b, each so many bytes.
func parted(name string, b []byte, size int) collection {
	return collection{name, slices.Collect(slices.Chunk(b, size))}
}

// scatteredBytes answers n bytes from this one on, of so many unlike ones, that look like no rule.
func scatteredBytes(n, unlike int, from byte, seed uint64) []byte {
	b := make([]byte, n)
	for i, x := range scattered(n, unlike, seed) {
		b[i] = from + byte(x)
	}
	return b
}

// layered is a collection with the layers below over it.
type layered struct {
	collection
	x *text.Text
	r row
	f *find.Finder
	l *Lister
}

// lay lays the layers over a collection that isn't empty.
func lay(t *testing.T, c collection) layered {
	t.Helper()
	x, e := text.New(c.docs...)
	if e != api.OK {
		t.Fatalf("%s: text: %v", c.name, e)
	}
	s := x.Symbols()
	sa, e := suffix.Array(s, x.Alphabet())
	if e != api.OK {
		t.Fatalf("%s: suffix: %v", c.name, e)
	}
	da, e := docs.Array(x, sa)
	if e != api.OK {
		t.Fatalf("%s: docs: %v", c.name, e)
	}
	f, e := find.New(s, sa, x.Alphabet(), 8)
	if e != api.OK {
		t.Fatalf("%s: find: %v", c.name, e)
	}
	r := row{c.name, da}
	return layered{c, x, r, f, made(t, r)}
}

// lookedFor answers by looking in which documents p stands.
func lookedFor(c collection, p []byte) []int {
	var l []int
	for d, b := range c.docs {
		if bytes.Contains(b, p) {
			l = append(l, d)
		}
	}
	return l
}

// wantPattern holds Docs and Some of a pattern's range against looking.
func wantPattern(t *testing.T, c layered, p []byte) {
	t.Helper()
	a, b := c.f.Range(c.x.Pattern(p))
	all := lookedFor(c.collection, p)
	if got := c.l.Docs(a, b); !slices.Equal(got, all) {
		t.Fatalf("%s: %d documents: %q, from %d ahead of %d: in %d, %v, not %d, %v", c.name, len(c.docs), p[:min(len(p), 20)], a, b, len(got), few(got), len(all), few(all))
	}
	for _, most := range []int{0, 1, len(all) / 2, len(all) - 1, len(all), len(all) + 1} {
		wantSome(t, c.r, c.l, a, b, most, all)
	}
}

// patterns answers all unlike patterns of so many bytes at most that stand in a document.
func patterns(c collection, longest int) [][]byte {
	had := map[string]bool{}
	var ps [][]byte
	for _, d := range c.docs {
		for i := range d {
			for many := 1; many <= min(longest, len(d)-i); many++ {
				if p := d[i : i+many]; !had[string(p)] {
					had[string(p)] = true
					ps = append(ps, p)
				}
			}
		}
	}
	return ps
}

// checkPatterns holds a lister in the ranges of all patterns of so many bytes at most that stand in a document, and of the like of them that may stand in none.
func checkPatterns(t *testing.T, c layered, longest int) {
	t.Helper()
	for _, p := range patterns(c.collection, longest) {
		wantPattern(t, c, p)
		wantPattern(t, c, append(slices.Clone(p), p[0]))
		wantPattern(t, c, append(slices.Clone(p), p[len(p)-1]+1))
	}
	for _, d := range c.docs {
		if len(d) > 0 {
			wantPattern(t, c, d)
		}
	}
}

// someCollections answers collections of few and of many documents.
func someCollections() []collection {
	all := make([]byte, 256)
	for i := range all {
		all[i] = byte(i)
	}
	return []collection{
		texts("the whole's example", "banana", "ananas", "nab"), texts("one", "abracadabra"), texts("one byte", "a"), texts("empty ones", "", "ab", "", "", "b", ""), texts("like ones", "abab", "abab", "abab", "bab"), texts("beginnings", "a", "ab", "aba", "abab", "ababa"), texts("ends", "ababa", "baba", "aba", "ba", "a"),
		texts("alike", "a", "aaaa", "aa", "aaaaaaaa", "aaa"), texts("bytes like ends' numbers", "\x00\x01\x02", "\x01\x00", "\x02\x02\x00\x01", "\x00"), texts("the greatest byte", "\xff\xff", "\xff\x00\xff", "\x00\xff\xff\xff"), texts("nothing in common", "abc", "def", "ghi", "jkl"),
		parted("each byte", all, 16), parted("two", scatteredBytes(300, 2, 'a', 1), 37), parted("three", scatteredBytes(400, 3, 0, 2), 11), parted("bytes", scatteredBytes(500, 256, 0, 3), 90), parted("one a document", scatteredBytes(60, 4, 'x', 4), 1),
	}
}

func TestTheWholesExample(t *testing.T) {
	c := lay(t, texts("the whole's example", "banana", "ananas", "nab"))
	for _, x := range []struct {
		p   string
		all []int
	}{
		{"an", []int{0, 1}}, {"a", []int{0, 1, 2}}, {"n", []int{0, 1, 2}}, {"b", []int{0, 2}}, {"s", []int{1}}, {"na", []int{0, 1, 2}}, {"ana", []int{0, 1}}, {"nana", []int{0, 1}}, {"nas", []int{1}}, {"ab", []int{2}}, {"nab", []int{2}}, {"ba", []int{0}}, {"banana", []int{0}}, {"ananas", []int{1}}, {"x", nil}, {"nn", nil}, {"bananas", nil},
	} {
		a, b := c.f.Range(c.x.Pattern([]byte(x.p)))
		wantRange(t, c.r, c.l, a, b, x.all)
		wantPattern(t, c, []byte(x.p))
	}
	wantRange(t, c.r, c.l, 0, len(c.r.da), []int{0, 1, 2})
}

func TestEveryPatternOfSomeCollections(t *testing.T) {
	for _, c := range someCollections() {
		y := lay(t, c)
		checkPatterns(t, y, 12)
		if len(y.r.da) < 100 {
			checkAll(t, y.r, y.l)
		}
	}
}

func TestEveryPatternOfEveryShortCollection(t *testing.T) {
	for _, x := range []struct{ many, longest int }{{1, 6}, {2, 4}, {3, 3}, {4, 2}, {6, 1}} {
		var words [][]byte
		for n := range x.longest + 1 {
			every(n, 2, func(l []int) {
				b := make([]byte, n)
				for i, c := range l {
					b[i] = 'a' + byte(c)
				}
				words = append(words, b)
			})
		}
		every(x.many, len(words), func(l []int) {
			c := collection{name: "short"}
			for _, w := range l {
				c.docs = append(c.docs, words[w])
			}
			y := lay(t, c)
			for _, w := range words {
				if len(w) > 0 {
					wantPattern(t, y, w)
				}
			}
		})
	}
}

func TestCollectionsOfAsMuchAsMayBe(t *testing.T) {
	again := func(s string, n int) []byte { return bytes.Repeat([]byte(s), n/len(s)+1)[:n] }
	uneven := collection{name: "one letter, uneven"}
	for d := range api.MaxDocs {
		uneven.docs = append(uneven.docs, again("a", d*2))
	}
	long := collection{"one long, many short", [][]byte{scatteredBytes(api.MaxText-255, 2, 'a', 21)}}
	for d := range api.MaxDocs - 1 {
		long.docs = append(long.docs, []byte{'a' + byte(d%3)})
	}
	for _, x := range []struct {
		collection
		longest int
	}{
		{parted("two letters", scatteredBytes(api.MaxText, 2, 'a', 22), 256), 7}, {parted("bytes", scatteredBytes(api.MaxText, 256, 0, 23), 256), 1}, {parted("like ones", again("abcab", api.MaxText), 256), 9}, {parted("one letter", again("a", api.MaxText), 256), 256}, {parted("one document", scatteredBytes(api.MaxText, 3, 'a', 24), api.MaxText), 5},
		{uneven, 510}, {long, 6}, {collection{"all empty but one", append(make([][]byte, api.MaxDocs-1), []byte("ab"))}, 2},
	} {
		checkPatterns(t, lay(t, x.collection), x.longest)
	}
}

func TestCollectionsWithoutBytes(t *testing.T) {
	for _, many := range []int{1, 2, 65, api.MaxDocs} {
		y := lay(t, collection{"no bytes", make([][]byte, many)})
		wantRange(t, y.r, y.l, 0, many, rising(many))
		wantRange(t, y.r, y.l, many/2, many, rising(many)[many/2:])
		wantPattern(t, y, []byte("a"))
	}
	x, e := text.New()
	if e != api.OK {
		t.Fatal(e)
	}
	da, e := docs.Array(x, nil)
	if e != api.OK {
		t.Fatal(e)
	}
	check(t, row{"no documents", da}, made(t, row{"no documents", da}))
}
