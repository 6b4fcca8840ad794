package rmq

import (
	"math"
	"slices"
	"testing"

	"colophon/api"
)

// extremes are places of no row.
var extremes = []int{
	-1, -2, -3, -32, -33, -64, -api.MaxInts, math.MinInt32, math.MinInt, math.MinInt + 1,
	api.MaxInts, api.MaxInts + 1, 1 << 24, math.MaxInt32, 1 << 32, 1<<32 + 1, math.MaxInt - 1, math.MaxInt,
}

// row is numbers by a name.
type row struct {
	name string
	l    []int
}

// numbers answers n numbers by a rule.
func numbers(n int, rule func(i int) int) []int {
	l := make([]int, n)
	for i := range l {
		l[i] = rule(i)
	}
	return l
}

// rising answers the numbers below n.
func rising(n int) []int {
	return numbers(n, func(i int) int { return i })
}

// falling answers the numbers below n, the greatest first.
func falling(n int) []int {
	return numbers(n, func(i int) int { return n - 1 - i })
}

// scattered answers n numbers below bound that look like no rule.
func scattered(n, bound int, seed uint64) []int {
	x := seed
	return numbers(n, func(int) int {
		x = x*6364136223846793005 + 1442695040888963407
		return int((x >> 33) % uint64(bound))
	})
}

// with answers l with x at this place.
func with(l []int, at, x int) []int {
	k := slices.Clone(l)
	k[at] = x
	return k
}

// withRoom answers a list like l, with a spare room filled by fill.
func withRoom(l []int, fill int) []int {
	k := make([]int, len(l), len(l)+5)
	copy(k, l)
	spoil(k[len(k):cap(k)], fill)
	return k
}

// spoil lays x everywhere in l, its spare room too.
func spoil(l []int, x int) {
	l = l[:cap(l)]
	for i := range l {
		l[i] = x
	}
}

// every calls f with each list of n numbers below bound.
func every(n, bound int, f func(l []int)) {
	l := make([]int, n)
	for {
		f(l)
		i := 0
		for ; i < n && l[i] == bound-1; i++ {
			l[i] = 0
		}
		if i == n {
			return
		}
		l[i]++
	}
}

// shortRows calls f with each short row of a few unlike numbers.
func shortRows(f func(r row)) {
	for _, x := range []struct{ n, bound int }{
		{0, 1}, {1, 1}, {1, 3}, {2, 3}, {3, 3}, {3, 4}, {4, 4}, {5, 3}, {5, 5}, {6, 2}, {6, 4}, {7, 3}, {8, 2}, {9, 2}, {10, 2},
	} {
		every(x.n, x.bound, func(l []int) { f(row{"short", l}) })
	}
}

// lengths are those of rows: a few, powers of two and beside them, and others.
var lengths = []int{1, 2, 3, 9, 31, 32, 33, 63, 64, 65, 95, 96, 97, 127, 128, 129, 160, 255, 256, 257, 300}

// kinds answers rows of n numbers of many kinds: rising, falling, alike, with many like ones, of the greatest and the least ints.
func kinds(n int) []row {
	least, greatest := math.MinInt, math.MaxInt
	return []row{
		{"rising", rising(n)}, {"falling", falling(n)}, {"rising from the least int on", numbers(n, func(i int) int { return least + i })}, {"falling from the greatest int on", numbers(n, func(i int) int { return greatest - i })},
		{"noughts", make([]int, n)}, {"the greatest int", slices.Repeat([]int{greatest}, n)}, {"the least int", slices.Repeat([]int{least}, n)},
		{"the greatest and the least int in turns", numbers(n, func(i int) int { return []int{greatest, least}[i%2] })},
		{"scattered", scattered(n, 1<<30, uint64(n))}, {"scattered, few unlike", scattered(n, 3, uint64(n))}, {"scattered, some unlike", scattered(n, n+1, uint64(n)+1)}, {"scattered, below 0", numbers(n, func(i int) int { return -(i * 7919 % 101) })},
		{"runs", numbers(n, func(i int) int { return i / 40 })}, {"falling runs", numbers(n, func(i int) int { return -i / 7 })}, {"rounds", numbers(n, func(i int) int { return i % 37 })}, {"falling rounds", numbers(n, func(i int) int { return -i % 32 })},
		{"a hill", numbers(n, func(i int) int { return min(i, n-1-i) })}, {"a dale", numbers(n, func(i int) int { return max(i, n-1-i) })},
		{"one less in the middle", with(make([]int, n), n/2, -1)}, {"one less at the end", with(make([]int, n), n-1, least)}, {"one less at the beginning", with(make([]int, n), 0, -1)}, {"one greater", with(make([]int, n), n/2, 1)},
	}
}

// longRows answers rows of many lengths and kinds.
func longRows() []row {
	var all []row
	for _, n := range lengths {
		all = append(all, kinds(n)...)
	}
	return all
}

// leastBy tells by the chapter's words where the least number of a range is.
func leastBy(l []int, a, b int) int {
	for i, x := range l {
		if i < a || i >= b {
			continue
		}
		first := true
		for k, y := range l {
			if k >= a && k < b && x > y {
				first = false
			}
		}
		if first {
			return i
		}
	}
	return -1
}

// made answers the table of a row.
func made(t *testing.T, l []int) *Table {
	t.Helper()
	x, e := New(l)
	if e != api.OK || x == nil {
		t.Fatalf("New of %d numbers: %v, %v", len(l), x != nil, e)
	}
	return x
}

// refused holds that New refuses this.
func refused(t *testing.T, l []int) {
	t.Helper()
	if x, e := New(l); x != nil || e != api.ErrArg {
		t.Errorf("New of %d numbers: %v, %v", len(l), x != nil, e)
	}
}

// few answers the first numbers of l, so that a fault's text stays short.
func few(l []int) []int {
	return l[:min(len(l), 20)]
}

// want holds one answer of Least.
func want(t *testing.T, r row, x *Table, a, b, place int) {
	t.Helper()
	if got := x.Least(a, b); got != place {
		t.Fatalf("%s: %d numbers, %v: Least(%d, %d): %d, not %d", r.name, len(r.l), few(r.l), a, b, got, place)
	}
}

// spots answers places of which a row of n numbers may be asked: the first and the last ones, one beside them, those in the middle, and the greatest and least ints.
func spots(n int, more ...int) []int {
	l := append([]int{-1, 0, 1, n / 3, n / 2, n - 1, n, n + 1, math.MinInt, math.MaxInt}, more...)
	slices.Sort(l)
	return slices.Compact(l)
}

// check holds Len and Least of a short row against the chapter's words, at all places from some below 0 to some above its length.
func check(t *testing.T, r row, x *Table) {
	t.Helper()
	n := len(r.l)
	if x.Len() != n {
		t.Fatalf("%s: %v: Len: %d, not %d", r.name, few(r.l), x.Len(), n)
	}
	places := spots(n, append(rising(n), -2, n+2)...)
	for _, a := range places {
		for _, b := range places {
			want(t, r, x, a, b, leastBy(r.l, a, b))
		}
	}
}

// checkAll holds Least of each range of a row, as its end goes on, against the first place of a number less than all ahead of it.
func checkAll(t *testing.T, r row, x *Table) {
	t.Helper()
	n := len(r.l)
	if x.Len() != n {
		t.Fatalf("%s: Len: %d, not %d", r.name, x.Len(), n)
	}
	for a := range n {
		first := -1
		for b := a; b <= n; b++ {
			want(t, r, x, a, b, first)
			if b < n && (first < 0 || r.l[b] < r.l[first]) {
				first = b
			}
		}
	}
}

// P14.1

func TestNewOfNoNumbers(t *testing.T) {
	for _, l := range [][]int{nil, {}, make([]int, 0, 7), []int{1, 2, 3}[:0]} {
		x := made(t, l)
		check(t, row{"none", nil}, x)
		if x.Len() != 0 || x.Least(0, 0) != -1 || x.Least(0, 1) != -1 || x.Least(math.MinInt, math.MaxInt) != -1 {
			t.Errorf("%d, %d, %d", x.Len(), x.Least(0, 1), x.Least(math.MinInt, math.MaxInt))
		}
	}
}

func TestNewOfOneNumber(t *testing.T) {
	for _, one := range append([]int{0, 1, 2, 63, 64}, extremes...) {
		x := made(t, []int{one})
		check(t, row{"one", []int{one}}, x)
		if x.Len() != 1 || x.Least(0, 1) != 0 || x.Least(-5, 5) != 0 || x.Least(1, 2) != -1 || x.Least(-1, 0) != -1 {
			t.Errorf("%d: %d, %d", one, x.Len(), x.Least(0, 1))
		}
	}
}

func TestLenOfEachLength(t *testing.T) {
	for n := range 300 {
		for _, r := range []row{{"noughts", make([]int, n)}, {"falling", falling(n)}, {"scattered", scattered(n, 50, 7)}} {
			if x := made(t, r.l); x.Len() != n {
				t.Errorf("%s: %d, not %d", r.name, x.Len(), n)
			}
		}
	}
}

func TestNewRefusesMoreThanMayBe(t *testing.T) {
	l := make([]int, api.MaxInts+1, api.MaxInts+9)
	refused(t, l)
	refused(t, l[:api.MaxInts+2])
	refused(t, l[:cap(l)])
	x := made(t, l[:api.MaxInts])
	if x.Len() != api.MaxInts {
		t.Errorf("Len: %d", x.Len())
	}
	// A refusal has turned nothing in what was made ahead of it.
	l[9] = -1
	refused(t, l)
	if x.Len() != api.MaxInts || x.Least(0, api.MaxInts) != 0 || x.Least(5, 20) != 5 {
		t.Errorf("%d, %d, %d", x.Len(), x.Least(0, api.MaxInts), x.Least(5, 20))
	}
}

func TestNewTakesAnyNumbers(t *testing.T) {
	least, greatest := math.MinInt, math.MaxInt
	for _, x := range []struct {
		l     []int
		place int
	}{
		{[]int{greatest, least}, 1}, {[]int{least, greatest}, 0}, {[]int{greatest, greatest - 1}, 1}, {[]int{greatest - 1, greatest}, 0}, {[]int{least, least + 1}, 0}, {[]int{least + 1, least}, 1},
		{[]int{0, least, -1}, 1}, {[]int{0, greatest, -1}, 2}, {[]int{1, 0, greatest}, 1}, {[]int{greatest, greatest, greatest}, 0}, {[]int{least, least, least}, 0}, {[]int{0, greatest, least, greatest, least}, 2},
		{[]int{1 << 32, 1}, 1}, {[]int{1, 1 << 32}, 0}, {[]int{1 << 31, -1 << 31, 1<<31 - 1}, 1}, {[]int{1 << 32, 0}, 1}, {[]int{-1 << 32, 0}, 0}, {[]int{1<<32 + 1, 1 << 32}, 1}, {[]int{-1, 1 << 62}, 0}, {[]int{1 << 62, -1 << 62}, 1},
	} {
		table := made(t, x.l)
		r := row{"any", x.l}
		want(t, r, table, 0, len(x.l), x.place)
		check(t, r, table)
	}
}

// P14.2

func TestTheExamples(t *testing.T) {
	x := made(t, []int{3, 1, 2, 1})
	if x.Len() != 4 || x.Least(0, 4) != 1 || x.Least(2, 4) != 3 || x.Least(2, 2) != -1 {
		t.Errorf("%d: %d, %d, %d", x.Len(), x.Least(0, 4), x.Least(2, 4), x.Least(2, 2))
	}
}

func TestLeastWrittenOut(t *testing.T) {
	r := row{"written out", []int{5, 2, 7, 2, 9, -1, 4, 4, -1, 8}}
	x := made(t, r.l)
	least, greatest := math.MinInt, math.MaxInt
	for _, w := range []struct{ a, b, place int }{
		{0, 10, 5}, {0, 1, 0}, {0, 2, 1}, {0, 3, 1}, {0, 4, 1}, {0, 5, 1}, {0, 6, 5}, {0, 9, 5}, {1, 2, 1}, {1, 5, 1}, {2, 3, 2}, {2, 4, 3}, {2, 5, 3}, {2, 9, 5},
		{4, 5, 4}, {4, 6, 5}, {5, 9, 5}, {6, 7, 6}, {6, 8, 6}, {6, 9, 8}, {6, 10, 8}, {7, 8, 7}, {7, 9, 8}, {8, 10, 8}, {9, 10, 9},
		// What of a range isn't there is passed over.
		{-1, 1, 0}, {-1, 3, 1}, {-9, 5, 1}, {least, 2, 1}, {least, 1, 0}, {least + 1, 10, 5}, {9, 11, 9}, {9, greatest, 9}, {6, 12, 8}, {2, greatest, 5}, {-1, 11, 5}, {least, greatest, 5}, {least + 1, greatest - 1, 5},
		// No place at all.
		{0, 0, -1}, {4, 4, -1}, {9, 9, -1}, {10, 10, -1}, {10, 11, -1}, {10, greatest, -1}, {11, 12, -1}, {11, greatest, -1}, {greatest - 1, greatest, -1}, {greatest, greatest, -1},
		{-1, 0, -1}, {-5, 0, -1}, {-5, -1, -1}, {-5, -5, -1}, {least, 0, -1}, {least, -1, -1}, {least, least, -1}, {least, least + 1, -1},
		{5, 4, -1}, {5, 0, -1}, {5, -1, -1}, {5, least, -1}, {10, 9, -1}, {10, 0, -1}, {11, 5, -1}, {greatest, 0, -1}, {greatest, 10, -1}, {greatest, -1, -1}, {greatest, least, -1}, {0, -1, -1}, {0, least, -1}, {-1, -2, -1},
	} {
		want(t, r, x, w.a, w.b, w.place)
	}
}

func TestEveryShortRow(t *testing.T) {
	shortRows(func(r row) { check(t, r, made(t, r.l)) })
}

func TestEveryShortRowOfTheGreatestAndTheLeastInts(t *testing.T) {
	of := []int{0, math.MinInt, math.MaxInt, -1, 1}
	for n := range 6 {
		every(n, len(of), func(l []int) {
			r := row{"short", numbers(n, func(i int) int { return of[l[i]] })}
			check(t, r, made(t, r.l))
		})
	}
}

func TestShortRowsAtTheEndOfLongOnes(t *testing.T) {
	// So that the ranges of short rows begin and end at each place beside those where a table may be cut.
	for _, ahead := range []int{14, 15, 16, 30, 31, 32, 62, 63, 64} {
		every(4, 3, func(l []int) {
			r := row{"short, behind long", append(slices.Repeat([]int{1}, ahead), l...)}
			x := made(t, r.l)
			for a := ahead - 3; a <= len(r.l); a++ {
				for b := ahead - 3; b <= len(r.l)+1; b++ {
					want(t, r, x, a, b, leastBy(r.l, a, b))
				}
				want(t, r, x, 0, a, leastBy(r.l, 0, a))
			}
		})
	}
}

func TestEachRangeOfLongRows(t *testing.T) {
	for _, r := range longRows() {
		checkAll(t, r, made(t, r.l))
	}
}

func TestLongRowsHeldAgainstTheWords(t *testing.T) {
	for _, n := range []int{33, 64, 100, 257, 1000} {
		for _, r := range kinds(n) {
			x := made(t, r.l)
			places := spots(n, 15, 16, 17, 31, 32, 33, 63, 64, 65, n-17, n-32, n-33)
			for _, a := range places {
				for _, b := range places {
					want(t, r, x, a, b, leastBy(r.l, a, b))
				}
			}
		}
	}
}

func TestEachRangeOfALongRow(t *testing.T) {
	for _, r := range []row{
		{"scattered", scattered(1500, 1<<40, 21)}, {"scattered, many like ones", scattered(1500, 20, 22)}, {"falling, with like ones", numbers(1500, func(i int) int { return -(i / 9) })}, {"rising, with like ones", numbers(1500, func(i int) int { return i / 50 })},
	} {
		checkAll(t, r, made(t, r.l))
	}
}

func TestOneLessNumberAtEachPlace(t *testing.T) {
	const n = 200
	for at := range n {
		r := row{"one less", with(make([]int, n), at, -1)}
		x := made(t, r.l)
		for a := 0; a <= n; a += 9 {
			for b := a; b <= n; b++ {
				place := a
				if a <= at && at < b {
					place = at
				}
				if a == b {
					place = -1
				}
				want(t, r, x, a, b, place)
			}
		}
	}
}

func TestTheFirstOfTwoLikeOnes(t *testing.T) {
	const n = 140
	for one := range n {
		for two := one + 1; two < n; two++ {
			r := row{"two like ones", with(with(slices.Repeat([]int{3}, n), one, 2), two, 2)}
			x := made(t, r.l)
			for _, w := range []struct{ a, b, place int }{
				{0, n, one}, {one, n, one}, {0, two + 1, one}, {one, two + 1, one}, {0, two, one}, {one + 1, n, two}, {one + 1, two + 1, two}, {two, n, two}, {math.MinInt, math.MaxInt, one},
			} {
				want(t, r, x, w.a, w.b, w.place)
			}
			if one > 0 {
				want(t, r, x, 0, one, 0)
			}
			if two+1 < n {
				want(t, r, x, two+1, n, two+1)
			}
		}
	}
}

func TestRowsThatRiseFallAndAreAlike(t *testing.T) {
	for _, n := range append([]int{5000}, lengths...) {
		up, down, alike := made(t, rising(n)), made(t, falling(n)), made(t, slices.Repeat([]int{7}, n))
		for a := 0; a < n; a += 1 + n/60 {
			for b := a + 1; b <= n; b += 1 + n/70 {
				want(t, row{"rising", nil}, up, a, b, a)
				want(t, row{"falling", nil}, down, a, b, b-1)
				want(t, row{"alike", nil}, alike, a, b, a)
			}
		}
		for _, x := range []*Table{up, down, alike} {
			want(t, row{"rising, falling, alike", nil}, x, n, n+1, -1)
			want(t, row{"rising, falling, alike", nil}, x, -4, 1, 0)
		}
	}
}

func TestPlacesFarOutside(t *testing.T) {
	for _, r := range []row{{"none", nil}, {"one", []int{4}}, {"some", []int{3, 1, 2, 1}}, {"many", scattered(150, 40, 5)}, {"the least ints", []int{math.MinInt + 1, math.MinInt, math.MaxInt}}} {
		x := made(t, r.l)
		n := len(r.l)
		places := append([]int{0, 1, n / 2, n - 1, n, n + 1, -n, -n - 1, n + 31, n + 32, n + 33}, extremes...)
		for _, a := range places {
			for _, b := range places {
				want(t, r, x, a, b, leastBy(r.l, a, b))
			}
		}
	}
}

func TestARangeIsAnsweredByItsParts(t *testing.T) {
	l := scattered(3000, 90, 31)
	x := made(t, l)
	for a := 0; a < len(l); a += 61 {
		for b := a + 1; b <= len(l); b += 67 {
			whole := x.Least(a, b)
			if whole < a || whole >= b {
				t.Fatalf("Least(%d, %d): %d", a, b, whole)
			}
			for _, mid := range []int{a, a + 1, (a + b) / 2, b - 1, b, whole, whole + 1} {
				first, second := x.Least(a, mid), x.Least(mid, b)
				place := first
				if first < 0 || second >= 0 && l[second] < l[first] {
					place = second
				}
				if place != whole {
					t.Fatalf("Least(%d, %d): %d, but %d and %d of the parts at %d", a, b, whole, first, second, mid)
				}
			}
		}
	}
}

func TestAsManyAsMayBe(t *testing.T) {
	const n = api.MaxInts
	// The numbers by their lowest bit that is a one, the least where this one is the highest: the least of a range is by the greatest power of two that divides one of its places.
	l := numbers(n, func(i int) int { return -(i & -i) })
	l[0] = 1
	r := row{"powers", l}
	x := made(t, l)
	if x.Len() != n {
		t.Fatal(x.Len())
	}
	for _, w := range []struct{ a, b, place int }{
		{0, n, n / 2}, {0, 1, 0}, {0, 2, 1}, {1, n, n / 2}, {0, n / 2, n / 4}, {0, n/2 + 1, n / 2}, {n / 2, n, n / 2}, {n/2 + 1, n, n / 4 * 3}, {n - 1, n, n - 1}, {n - 2, n, n - 2}, {n - 3, n, n - 2}, {n - 40, n, n - 32}, {n - 64, n, n - 64}, {n - 63, n, n - 32},
		{n, n + 1, -1}, {n, n, -1}, {math.MinInt, math.MaxInt, n / 2}, {n - 1, math.MaxInt, n - 1}, {3*n/4 + 1, n, 7 * n / 8}, {n/4 + 1, n / 2, 3 * n / 8}, {n/4 + 1, 3 * n / 4, n / 2},
	} {
		want(t, r, x, w.a, w.b, w.place)
	}
	for a := 1; a < n; a += 99991 {
		for b := a + 1; b <= n; b += 88883 {
			want(t, r, x, a, b, mostEven(a, b))
		}
	}
}

// mostEven answers the first of the numbers from a on, ahead of b, that the greatest power of two divides.
func mostEven(a, b int) int {
	for step := api.MaxInts; ; step /= 2 {
		if up := (a + step - 1) / step * step; up < b {
			return up
		}
	}
}

func TestAsManyLikeOnesAsMayBe(t *testing.T) {
	const n = api.MaxInts
	l := make([]int, n)
	x := made(t, l)
	l[n-1] = -1
	last := made(t, l)
	for a := 0; a < n; a += 33331 {
		for b := a + 1; b <= n; b += 99991 {
			want(t, row{"alike", nil}, x, a, b, a)
			want(t, row{"alike but the last", nil}, last, a, b, a)
		}
		want(t, row{"alike", nil}, x, a, n, a)
		want(t, row{"alike but the last", nil}, last, a, n, n-1)
		want(t, row{"alike but the last", nil}, last, a, n-1, a)
	}
}

// A nil table.

func TestNilTable(t *testing.T) {
	var x *Table
	if x.Len() != 0 {
		t.Errorf("Len: %d", x.Len())
	}
	places := append([]int{0, 1, 2, 31, 32, 64, 65}, extremes...)
	for _, a := range places {
		for _, b := range places {
			if got := x.Least(a, b); got != -1 {
				t.Errorf("Least(%d, %d): %d", a, b, got)
			}
		}
	}
}

// What is handed in.

// someRows answers rows of few and of many numbers.
func someRows() []row {
	return []row{
		{"none", nil}, {"one", []int{3}}, {"alike", []int{6, 6, 6}}, {"some", []int{3, 1, 2, 1}}, {"of the ends", []int{math.MaxInt, math.MinInt, 0}},
		{"many", scattered(200, 256, 11)}, {"many, rising", rising(150)}, {"many, falling", falling(129)},
	}
}

func TestTheListIsLeftAsItIs(t *testing.T) {
	for _, r := range someRows() {
		for _, fill := range []int{0, -1, 99, math.MinInt, math.MaxInt} {
			l := withRoom(r.l, fill)
			was := slices.Clone(l[:cap(l)])
			stays := func(call string) {
				if !slices.Equal(l[:cap(l)], was) {
					t.Fatalf("%s: %s changed the list", r.name, call)
				}
			}
			x := made(t, l)
			stays("New")
			x.Len()
			stays("Len")
			check(t, r, x)
			stays("Least")
		}
	}
}

func TestTheListThatIsRefusedIsLeftAsItIs(t *testing.T) {
	l := make([]int, api.MaxInts+1, api.MaxInts+4)
	for i := range l[:cap(l)] {
		l[:cap(l)][i] = i * 7919 % 1000003
	}
	refused(t, l)
	for i, x := range l[:cap(l)] {
		if x != i*7919%1000003 {
			t.Fatalf("%d at %d", x, i)
		}
	}
}

func TestTheTableIsOfTheRowAsItWas(t *testing.T) {
	for _, r := range someRows() {
		l := withRoom(r.l, 1)
		x := made(t, l)
		for _, y := range []int{0, -1, 7, math.MinInt, math.MaxInt} {
			spoil(l, y)
			check(t, r, x)
		}
		for at := range l {
			spoil(l, 5)
			l[at] = -5
			check(t, row{r.name, r.l[:min(len(r.l), 4)]}, made(t, r.l[:min(len(r.l), 4)]))
			want(t, r, x, 0, len(l), leastBy(r.l, 0, len(l)))
			want(t, r, x, at, at+1, at)
			want(t, r, x, 0, at+1, leastBy(r.l, 0, at+1))
		}
		_ = append(l, -5, -6)
		check(t, r, x)
	}
}

func TestOneListOfTwoTables(t *testing.T) {
	l := scattered(100, 30, 41)
	was := slices.Clone(l)
	first := made(t, l)
	slices.Reverse(l)
	second := made(t, l)
	part := made(t, l[20:70])
	spoil(l, 3)
	check(t, row{"first", was}, first)
	slices.Reverse(was)
	check(t, row{"second", was}, second)
	check(t, row{"part", was[20:70]}, part)
}

// Objects beside one another.

func TestTablesBesideOneAnother(t *testing.T) {
	rows := append(someRows(), row{"more", scattered(333, 9, 51)}, row{"more, below 0", numbers(70, func(i int) int { return -i * i % 17 })})
	tables := make([]*Table, len(rows))
	for k, r := range rows {
		tables[k] = made(t, r.l)
	}
	for k := range slices.Backward(rows) {
		check(t, rows[k], tables[k])
	}
	for a := range 90 {
		for k, r := range rows {
			want(t, r, tables[k], a, a+40, leastBy(r.l, a, a+40))
		}
	}
}

func TestAnswersDontHangOnThoseAhead(t *testing.T) {
	r := row{"many like ones", scattered(180, 12, 61)}
	x, other := made(t, r.l), made(t, r.l)
	for a := 0; a <= 180; a += 7 {
		for b := 180; b >= 0; b -= 11 {
			other.Least(b, a)
			other.Least(math.MinInt, b)
			first := x.Least(a, b)
			if again := x.Least(a, b); again != first || other.Least(a, b) != first || made(t, r.l).Least(a, b) != first {
				t.Fatalf("Least(%d, %d): %d, then %d", a, b, first, again)
			}
		}
	}
}
