package best

import (
	"bytes"
	"math"
	"slices"
	"testing"

	"colophon/api"
	"colophon/docs"
	"colophon/find"
	"colophon/suffix"
	"colophon/text"
	"colophon/wave"
)

// extremes are places of no row, and counts beyond all that may be.
var extremes = []int{
	-1, -2, -3, -64, -api.MaxInts, math.MinInt32, math.MinInt, math.MinInt + 1,
	api.MaxInts, api.MaxInts + 1, 1 << 24, math.MaxInt32, 1 << 32, 1<<32 + 1, math.MaxInt - 1, math.MaxInt,
}

// greatest is the greatest number that a matrix may have; it has as many levels as may be then.
const greatest = api.MaxInts - 1

// row is numbers, none greater than most, by a name.
type row struct {
	name string
	l    []int
	most int
}

// numbers answers n numbers by a rule.
func numbers(n int, rule func(i int) int) []int {
	l := make([]int, n)
	for i := range l {
		l[i] = rule(i)
	}
	return l
}

// rising answers the numbers below n.
func rising(n int) []int {
	return numbers(n, func(i int) int { return i })
}

// falling answers the numbers below n, the greatest first.
func falling(n int) []int {
	return numbers(n, func(i int) int { return n - 1 - i })
}

// scattered answers n numbers below bound that look like no rule.
func scattered(n, bound int, seed uint64) []int {
	x := seed
	return numbers(n, func(int) int {
		x = x*6364136223846793005 + 1442695040888963407
		return int((x >> 33) % uint64(bound))
	})
}

// grown answers n numbers: one 0, two 1, three 2, and so on.
func grown(n int) []int {
	var l []int
	for x := 0; len(l) < n; x++ {
		l = append(l, slices.Repeat([]int{x}, x+1)...)
	}
	return l[:n]
}

// with answers l with x at this place.
func with(l []int, at, x int) []int {
	k := slices.Clone(l)
	k[at] = x
	return k
}

// spoil lays x everywhere in l, its spare room too.
func spoil[T any](l []T, x T) {
	l = l[:cap(l)]
	for i := range l {
		l[i] = x
	}
}

// every calls f with each list of n numbers below bound.
func every(n, bound int, f func(l []int)) {
	l := make([]int, n)
	for {
		f(l)
		i := 0
		for ; i < n && l[i] == bound-1; i++ {
			l[i] = 0
		}
		if i == n {
			return
		}
		l[i]++
	}
}

// few answers the first of l, so that a fault's text stays short.
func few[T any](l []T) []T {
	return l[:min(len(l), 20)]
}

// widthBy tells by layer 13's words how many levels a row has of which most is the greatest number that may be.
func widthBy(most int) int {
	w := 1
	for most >= 1<<w {
		w++
	}
	return w
}

// rangeBy answers the numbers from a on, ahead of b.
func rangeBy(l []int, a, b int) []int {
	var in []int
	for i, x := range l {
		if i >= a && i < b {
			in = append(in, x)
		}
	}
	return in
}

// betterBy tells by the chapter's words which of two unlike numbers is better, as an order.
func betterBy(x, y api.Pair) int {
	if x.Count > y.Count || x.Count == y.Count && x.Symbol < y.Symbol {
		return -1
	}
	return 1
}

// bestBy tells by the chapter's words all unlike numbers of a range, the best first, by counting each.
func bestBy(in []int) []api.Pair {
	count := map[int]int{}
	for _, x := range in {
		count[x]++
	}
	var l []api.Pair
	for x, n := range count {
		l = append(l, api.Pair{Symbol: x, Count: n})
	}
	slices.SortFunc(l, betterBy)
	return l
}

// share is a part by the chapter's words: those of a range's numbers that are from low on, below high.
type share struct {
	low, high int
	in        []int
}

// search is a search by the chapter's words: its parts, in no order.
type search struct{ left []share }

// lay lays a part among the others, if it has any number.
func (s *search) lay(p share) {
	if len(p.in) > 0 {
		s.left = append(s.left, p)
	}
}

// searchBy answers the search over a range's numbers, which are below bound.
func searchBy(in []int, bound int) *search {
	s := &search{}
	s.lay(share{0, bound, in})
	return s
}

// take takes the greatest part out of the others, of like ones that of the lesser numbers.
func (s *search) take() share {
	best := 0
	for i, p := range s.left {
		if n, most := len(p.in), len(s.left[best].in); n > most || n == most && p.low < s.left[best].low {
			best = i
		}
	}
	p := s.left[best]
	s.left = slices.Delete(s.left, best, best+1)
	return p
}

// step answers what Step tells by the chapter's words.
func (s *search) step() (api.Pair, bool, bool) {
	if len(s.left) == 0 {
		return api.Pair{}, false, false
	}
	p := s.take()
	if p.high-p.low == 1 {
		return api.Pair{Symbol: p.low, Count: len(p.in)}, true, true
	}
	middle := (p.low + p.high) / 2
	lower, upper := share{p.low, middle, nil}, share{middle, p.high, nil}
	for _, x := range p.in {
		if x < middle {
			lower.in = append(lower.in, x)
		} else {
			upper.in = append(upper.in, x)
		}
	}
	s.lay(lower)
	s.lay(upper)
	return api.Pair{}, false, true
}

// next answers what Next tells by the chapter's words.
func (s *search) next() (api.Pair, bool) {
	for len(s.left) > 0 {
		if p, told, _ := s.step(); told {
			return p, true
		}
	}
	return api.Pair{}, false
}

// made answers the matrix of a row.
func made(t *testing.T, r row) *wave.Matrix {
	t.Helper()
	m, e := wave.New(r.l, r.most)
	if e != api.OK {
		t.Fatalf("%s: a matrix of %d numbers, %d the greatest: %v", r.name, len(r.l), r.most, e)
	}
	return m
}

// wantTop holds one answer of Top of a range that has all these, the best first.
func wantTop(t *testing.T, r row, m *wave.Matrix, a, b, k int, all []api.Pair) {
	t.Helper()
	want := all[:max(0, min(k, len(all)))]
	if got := Top(m, a, b, k); !slices.Equal(got, want) {
		t.Fatalf("%s: %d numbers, %v: Top(%d, %d, %d): %d, %v, not %d, %v", r.name, len(r.l), few(r.l), a, b, k, len(got), few(got), len(want), few(want))
	}
}

// counts answers how many may be asked for of n: none, one, some, beside n, many, and the greatest and least ints.
func counts(n int) []int {
	l := []int{math.MinInt, math.MinInt + 1, -api.MaxInts, -2, -1, 0, 1, 2, n / 2, n - 2, n - 1, n, n + 1, n + 2, 2 * n, api.MaxInts, math.MaxInt32, math.MaxInt - 1, math.MaxInt}
	slices.Sort(l)
	return slices.Compact(l)
}

// wantTops holds Top of a range, of many counts.
func wantTops(t *testing.T, r row, m *wave.Matrix, a, b int, all []api.Pair) {
	t.Helper()
	for _, k := range counts(len(all)) {
		wantTop(t, r, m, a, b, k, all)
	}
}

// wantEnd holds that a search tells nothing any more, whatever it is asked, again and again.
func wantEnd(t *testing.T, s *Search) {
	t.Helper()
	for range 3 {
		if p, told, more := s.Step(); p != (api.Pair{}) || told || more {
			t.Fatalf("Step behind the end: %v, %v, %v", p, told, more)
		}
		if p, told := s.Next(); p != (api.Pair{}) || told {
			t.Fatalf("Next behind the end: %v, %v", p, told)
		}
	}
}

// wantNexts holds what Next tells of a range that has all these, the best first.
func wantNexts(t *testing.T, r row, m *wave.Matrix, a, b int, all []api.Pair) {
	t.Helper()
	s := New(m, a, b)
	for k, want := range all {
		if got, told := s.Next(); got != want || !told {
			t.Fatalf("%s: %d numbers, %v: from %d on, ahead of %d: Next number %d: %v, %v, not %v", r.name, len(r.l), few(r.l), a, b, k, got, told, want)
		}
	}
	wantEnd(t, s)
}

// wantStep holds one Step of a search against the chapter's words, and answers whether it told a number, and whether there was a part.
func wantStep(t *testing.T, r row, s *Search, by *search) (bool, bool) {
	t.Helper()
	got, told, more := s.Step()
	if want, tells, has := by.step(); got != want || told != tells || more != has {
		t.Fatalf("%s: %d numbers, %v: Step: %v, %v, %v, not %v, %v, %v", r.name, len(r.l), few(r.l), got, told, more, want, tells, has)
	}
	return told, more
}

// wantNext holds one Next of a search against the chapter's words.
func wantNext(t *testing.T, r row, s *Search, by *search) {
	t.Helper()
	got, told := s.Next()
	if want, tells := by.next(); got != want || told != tells {
		t.Fatalf("%s: %d numbers, %v: Next: %v, %v, not %v, %v", r.name, len(r.l), few(r.l), got, told, want, tells)
	}
}

// wantSteps holds what Step tells of a range, part by part, against the chapter's words.
func wantSteps(t *testing.T, r row, m *wave.Matrix, a, b int) {
	t.Helper()
	s, by := New(m, a, b), searchBy(rangeBy(r.l, a, b), 1<<widthBy(r.most))
	for {
		if _, more := wantStep(t, r, s, by); !more {
			break
		}
	}
	wantEnd(t, s)
}

// wantIdle holds that ahead of each number told, and behind the last one, no more Steps tell none than the levels times the range's unlike numbers, so that it is as well no more than they times all its numbers.
func wantIdle(t *testing.T, r row, m *wave.Matrix, a, b int, all []api.Pair) {
	t.Helper()
	s := New(m, a, b)
	most, idle, many := widthBy(r.most)*len(all), 0, 0
	for {
		_, told, more := s.Step()
		if !more {
			break
		}
		idle++
		if told {
			idle = 0
			many++
		}
		if idle > most {
			t.Fatalf("%s: %d numbers, %v: from %d on, ahead of %d: more than %d Steps tell none", r.name, len(r.l), few(r.l), a, b, most)
		}
	}
	if idle != 0 || many != len(all) {
		t.Fatalf("%s: %d numbers, %v: from %d on, ahead of %d: %d told, and %d Steps behind, not %d", r.name, len(r.l), few(r.l), a, b, many, idle, len(all))
	}
}

// wantRange holds all that a range answers against the chapter's words.
func wantRange(t *testing.T, r row, m *wave.Matrix, a, b int) {
	t.Helper()
	all := bestBy(rangeBy(r.l, a, b))
	wantTops(t, r, m, a, b, all)
	wantNexts(t, r, m, a, b, all)
	wantSteps(t, r, m, a, b)
	wantIdle(t, r, m, a, b, all)
}

// spots answers places of which a row of n numbers may be asked: the first and the last ones, those beside them, those in the middle, and the greatest and least ints.
func spots(n int) []int {
	l := []int{-2, -1, 0, 1, 2, n / 3, n / 2, n/2 + 1, n - 2, n - 1, n, n + 1, n + 2, 2 * n, math.MinInt, math.MaxInt}
	slices.Sort(l)
	return slices.Compact(l)
}

// check holds all that some ranges of a row answer, those far outside too.
func check(t *testing.T, r row, m *wave.Matrix) {
	t.Helper()
	for _, a := range spots(len(r.l)) {
		for _, b := range spots(len(r.l)) {
			wantRange(t, r, m, a, b)
		}
	}
}

// checkNear holds what all ranges of a short row answer, and those just outside, Top of every count that is near.
func checkNear(t *testing.T, r row) {
	t.Helper()
	m, n := made(t, r), len(r.l)
	for a := -1; a <= n+1; a++ {
		for b := -1; b <= n+1; b++ {
			all := bestBy(rangeBy(r.l, a, b))
			for k := -1; k <= n+1; k++ {
				wantTop(t, r, m, a, b, k, all)
			}
			wantNexts(t, r, m, a, b, all)
			wantSteps(t, r, m, a, b)
			wantIdle(t, r, m, a, b, all)
		}
	}
}

// kinds answers rows of n numbers of many kinds: alike, unlike, rising, falling, unlike in one bit alone, of one level and of as many as may be.
func kinds(n int) []row {
	half, more := greatest/2, grown(n)
	nine, five := scattered(n, 9, uint64(n)+4), scattered(n, 5, uint64(n)+5)
	return []row{
		{"noughts, one level", make([]int, n), 0}, {"ones, one level", slices.Repeat([]int{1}, n), 1}, {"noughts, all levels", make([]int, n), greatest}, {"the greatest", slices.Repeat([]int{greatest}, n), greatest}, {"alike", slices.Repeat([]int{5}, n), 9},
		{"rising", rising(n), n - 1}, {"falling", falling(n), n - 1}, {"rising, all levels", rising(n), greatest}, {"falling from the greatest", numbers(n, func(i int) int { return greatest - i }), greatest}, {"rising afar", numbers(n, func(i int) int { return i * (greatest / n) }), greatest}, {"unlike", numbers(n, func(i int) int { return i * 7919 % 104729 }), 104728},
		{"one level, in turns", numbers(n, func(i int) int { return i % 2 }), 1}, {"the lowest bit alone", numbers(n, func(i int) int { return i*i/3%2 | 1<<20 }), greatest}, {"the highest bit alone", numbers(n, func(i int) int { return i*i/3%2<<21 | 1 }), greatest}, {"the lowest and the highest bit", numbers(n, func(i int) int { return i%2<<21 | i/2%2 }), greatest}, {"beside the middle", numbers(n, func(i int) int { return half + i%2 }), greatest},
		{"powers of two", numbers(n, func(i int) int { return 1 << (i % 22) }), greatest}, {"beside powers of two", numbers(n, func(i int) int { return 1<<(i%22) - 1 }), 1 << 21},
		{"as often, rounds", numbers(n, func(i int) int { return i % 7 }), 7}, {"as often, falling rounds", numbers(n, func(i int) int { return 8 - i%8 }), 8}, {"as often, runs", numbers(n, func(i int) int { return i / 5 }), n}, {"as often, falling runs", numbers(n, func(i int) int { return (n - i) / 5 }), n}, {"twice", numbers(n, func(i int) int { return i % (n/2 + 1) }), n},
		{"the greater more often", more, n}, {"the lesser more often", numbers(n, func(i int) int { return n - more[i] }), n}, {"one other in the middle", with(make([]int, n), n/2, 37), 40}, {"one nought at the end", with(slices.Repeat([]int{40}, n), n-1, 0), 40},
		{"scattered, two", scattered(n, 2, uint64(n)), 1}, {"scattered, few", scattered(n, 6, uint64(n)+1), 6}, {"scattered, many", scattered(n, n+1, uint64(n)+2), n}, {"scattered, unlike", scattered(n, api.MaxInts, uint64(n)+3), greatest}, {"scattered, often", numbers(n, func(i int) int { return nine[i] * five[i] }), 32},
	}
}

// longRows answers rows of many lengths and kinds.
func longRows(lengths ...int) []row {
	var all []row
	for _, n := range lengths {
		all = append(all, kinds(n)...)
	}
	return all
}

// someRows answers rows of few and of many numbers.
func someRows() []row {
	return []row{
		{"none", nil, 3}, {"none, one level", nil, 0}, {"one", []int{5}, 5}, {"two alike", []int{3, 3}, 4}, {"two unlike", []int{4, 3}, 4}, {"the example", []int{2, 0, 2, 1, 1, 2}, 2},
		{"alike", make([]int, 40), 6}, {"rising", rising(35), 34}, {"falling", falling(34), 40}, {"scattered", scattered(45, 6, 1), 5}, {"far", scattered(38, api.MaxInts, 3), greatest}, {"the greater more often", grown(36), 40},
	}
}

// P18.1

func TestTheExamples(t *testing.T) {
	m := made(t, row{"the example", []int{2, 0, 2, 1, 1, 2}, 2})
	if l := Top(m, 0, 6, 2); !slices.Equal(l, []api.Pair{{Symbol: 2, Count: 3}, {Symbol: 1, Count: 2}}) {
		t.Errorf("%v", l)
	}
	if l := Top(m, 1, 5, 9); !slices.Equal(l, []api.Pair{{Symbol: 1, Count: 2}, {Symbol: 0, Count: 1}, {Symbol: 2, Count: 1}}) {
		t.Errorf("%v", l)
	}
}

func TestTopWrittenOut(t *testing.T) {
	least, greatest := math.MinInt, math.MaxInt
	r := row{"written out", []int{7, 3, 3, 5, 7, 3, 9, 5}, 9}
	m := made(t, r)
	pairs := func(l ...int) []api.Pair {
		var p []api.Pair
		for i := 0; i < len(l); i += 2 {
			p = append(p, api.Pair{Symbol: l[i], Count: l[i+1]})
		}
		return p
	}
	whole := pairs(3, 3, 5, 2, 7, 2, 9, 1)
	for _, x := range []struct {
		a, b int
		all  []api.Pair
	}{
		{0, 8, whole}, {0, 7, pairs(3, 3, 7, 2, 5, 1, 9, 1)}, {0, 6, pairs(3, 3, 7, 2, 5, 1)}, {0, 5, pairs(3, 2, 7, 2, 5, 1)}, {0, 4, pairs(3, 2, 5, 1, 7, 1)}, {0, 3, pairs(3, 2, 7, 1)}, {1, 8, pairs(3, 3, 5, 2, 7, 1, 9, 1)}, {2, 7, pairs(3, 2, 5, 1, 7, 1, 9, 1)}, {3, 8, pairs(5, 2, 3, 1, 7, 1, 9, 1)}, {4, 7, pairs(3, 1, 7, 1, 9, 1)}, {1, 6, pairs(3, 3, 5, 1, 7, 1)},
		// Of one place, and of two.
		{0, 1, pairs(7, 1)}, {1, 2, pairs(3, 1)}, {3, 4, pairs(5, 1)}, {6, 7, pairs(9, 1)}, {7, 8, pairs(5, 1)}, {0, 2, pairs(3, 1, 7, 1)}, {1, 3, pairs(3, 2)}, {3, 5, pairs(5, 1, 7, 1)}, {6, 8, pairs(5, 1, 9, 1)},
		// What of a range isn't there doesn't count.
		{-1, 8, whole}, {0, 9, whole}, {-7, 99, whole}, {least, greatest, whole}, {least + 1, greatest - 1, whole}, {least, 8, whole}, {0, greatest, whole}, {-1, 1, pairs(7, 1)}, {least, 3, pairs(3, 2, 7, 1)}, {7, 9, pairs(5, 1)}, {7, greatest, pairs(5, 1)}, {6, greatest - 1, pairs(5, 1, 9, 1)},
		// No place at all.
		{0, 0, nil}, {3, 3, nil}, {8, 8, nil}, {8, 9, nil}, {8, greatest, nil}, {9, 20, nil}, {greatest - 1, greatest, nil}, {greatest, greatest, nil}, {-1, 0, nil}, {-9, -1, nil}, {-2, -2, nil}, {least, 0, nil}, {least, -1, nil}, {least, least, nil}, {least, least + 1, nil},
		{1, 0, nil}, {4, 2, nil}, {8, 0, nil}, {8, 7, nil}, {9, 8, nil}, {4, -1, nil}, {0, least, nil}, {greatest, 0, nil}, {greatest, 8, nil}, {greatest, least, nil}, {-1, -2, nil}, {greatest, greatest - 1, nil}, {least + 1, least, nil},
	} {
		wantTops(t, r, m, x.a, x.b, x.all)
		wantRange(t, r, m, x.a, x.b)
	}
	for _, x := range []struct{ k, many int }{
		{least, 0}, {least + 1, 0}, {-8, 0}, {-1, 0}, {0, 0}, {1, 1}, {2, 2}, {3, 3}, {4, 4}, {5, 4}, {8, 4}, {9, 4}, {greatest - 1, 4}, {greatest, 4},
	} {
		if l := Top(m, 0, 8, x.k); !slices.Equal(l, whole[:x.many]) {
			t.Errorf("Top(0, 8, %d): %v", x.k, l)
		}
	}
}

func TestEveryShortRow(t *testing.T) {
	for _, x := range []struct{ n, most int }{
		{0, 0}, {0, 1}, {0, 6}, {1, 0}, {2, 0}, {5, 0}, {1, 1}, {2, 1}, {3, 1}, {4, 1}, {5, 1}, {6, 1}, {7, 1},
		{1, 2}, {2, 2}, {3, 2}, {4, 2}, {5, 2}, {6, 2}, {1, 3}, {2, 3}, {3, 3}, {4, 3}, {5, 3}, {1, 4}, {2, 4}, {3, 4}, {4, 4}, {1, 7}, {2, 7}, {3, 7}, {1, 8}, {2, 8}, {3, 8}, {1, 16}, {2, 16},
	} {
		every(x.n, x.most+1, func(l []int) { checkNear(t, row{"short", l, x.most}) })
	}
}

func TestEveryShortRowOfAllLevels(t *testing.T) {
	far := []int{0, 1, 1 << 21, greatest}
	for n := range 5 {
		every(n, len(far), func(l []int) {
			checkNear(t, row{"short, far", numbers(n, func(i int) int { return far[l[i]] }), greatest})
		})
	}
}

func TestEveryShortRowOfNumbersTakenBelowMore(t *testing.T) {
	// The same numbers in more levels than they need: halves of which one isn't there.
	for _, most := range []int{2, 3, 4, 7, 8, 255, 256, 1 << 21} {
		every(4, 3, func(l []int) { checkNear(t, row{"short, room above", l, most}) })
	}
}

func TestShortRowsAtTheEndOfLongOnes(t *testing.T) {
	for _, ahead := range []int{61, 62, 64, 510} {
		every(4, 3, func(l []int) {
			r := row{"short, behind long", append(slices.Repeat([]int{1}, ahead), l...), 3}
			m := made(t, r)
			for a := ahead - 2; a <= len(r.l); a++ {
				wantRange(t, r, m, a, len(r.l))
				wantRange(t, r, m, a, len(r.l)-1)
			}
		})
	}
}

func TestLongRowsHeldAgainstTheWords(t *testing.T) {
	for _, r := range longRows(1, 2, 3, 9, 33, 65) {
		check(t, r, made(t, r))
	}
}

func TestVeryLongRowsHeldAgainstTheWords(t *testing.T) {
	for _, r := range longRows(513, 700) {
		m, n := made(t, r), len(r.l)
		for _, w := range []struct{ a, b int }{{0, n}, {-5, n + 5}, {1, n - 1}, {n / 3, n - n/4}, {63, 65}, {64, 512}, {511, 513}, {n / 2, n/2 + 1}, {n, n + 1}, {math.MinInt, math.MaxInt}} {
			wantRange(t, r, m, w.a, w.b)
		}
	}
}

func TestEachRangeOfSomeRows(t *testing.T) {
	for _, r := range append(someRows(), row{"as many as documents may be", scattered(60, api.MaxDocs, 12), api.MaxDocs - 1}, row{"rounds", numbers(50, func(i int) int { return i % 9 }), 8}) {
		m := made(t, r)
		for a := range len(r.l) + 1 {
			for b := a; b <= len(r.l); b++ {
				all := bestBy(rangeBy(r.l, a, b))
				wantTop(t, r, m, a, b, len(all), all)
				wantTop(t, r, m, a, b, (a+b)%(len(all)+2), all)
				wantNexts(t, r, m, a, b, all)
				wantSteps(t, r, m, a, b)
			}
		}
	}
}

func TestEveryCountOfLongRows(t *testing.T) {
	for _, r := range longRows(5, 33, 90) {
		m, n := made(t, r), len(r.l)
		for _, w := range []struct{ a, b int }{{0, n}, {1, n}, {n / 3, n - n/4}, {math.MinInt, math.MaxInt}} {
			all := bestBy(rangeBy(r.l, w.a, w.b))
			for k := -2; k <= len(all)+2; k++ {
				wantTop(t, r, m, w.a, w.b, k, all)
			}
		}
	}
}

func TestEachWidth(t *testing.T) {
	for w := 1; w <= 22; w++ {
		for _, most := range []int{1 << (w - 1), 1<<w - 1} {
			l := []int{most, 0, most / 2, most, 0, most, most - 1, 1}
			r := row{"width", l, most}
			check(t, r, made(t, r))
		}
	}
}

func TestNumbersUnlikeInOneBitAlone(t *testing.T) {
	for bit := range 22 {
		for _, others := range []int{0, greatest &^ (1 << bit), 0x155555 &^ (1 << bit)} {
			zero, one := others, others|1<<bit
			for _, l := range [][]int{{zero, one}, {one, zero}, {one, zero, one}, {zero, one, zero}, {one, one, zero, zero}, {zero, one, one, zero, one}} {
				checkNear(t, row{"one bit", l, greatest})
			}
		}
	}
}

func TestOfThoseAsOftenTheLesserIsBetter(t *testing.T) {
	for _, r := range []row{
		{"each once", falling(100), 99}, {"each twice", append(falling(50), rising(50)...), 63}, {"far from one another", numbers(64, func(i int) int { return (63 - i%32) << 16 }), greatest}, {"neighbours", []int{4, 3, 4, 3, 8, 7, 8, 7}, 8}, {"one less often", []int{9, 9, 5, 5, 2, 7, 7}, 15}, {"one more often", []int{9, 1, 5, 9, 5, 9, 1}, 9},
	} {
		m := made(t, r)
		wantRange(t, r, m, 0, len(r.l))
		last := api.Pair{Symbol: -1, Count: len(r.l)}
		for _, p := range Top(m, 0, len(r.l), len(r.l)) {
			if p.Count > last.Count || p.Count == last.Count && p.Symbol <= last.Symbol {
				t.Errorf("%s: %v behind %v", r.name, p, last)
			}
			last = p
		}
	}
	// The part that is split later has the lesser one.
	r := row{"the lesser one in the lesser part", []int{6, 6, 7, 1, 1}, 7}
	wantTop(t, r, made(t, r), 0, 5, 1, []api.Pair{{Symbol: 1, Count: 2}})
}

func TestPlacesFarOutside(t *testing.T) {
	for _, r := range []row{{"none", nil, 3}, {"one", []int{4}, 4}, {"some", []int{3, 1, 2, 1}, 3}, {"many", scattered(70, 9, 5), 8}} {
		m, n := made(t, r), len(r.l)
		places := append([]int{0, 1, n / 2, n - 1, n, n + 1, 2 * n, -n}, extremes...)
		for _, a := range places {
			for _, b := range places {
				wantRange(t, r, m, a, b)
			}
		}
	}
}

// onceEach answers that many numbers from this one on, each there once.
func onceEach(from, many int) []api.Pair {
	l := make([]api.Pair, many)
	for i := range l {
		l[i] = api.Pair{Symbol: from + i, Count: 1}
	}
	return l
}

func TestAsManyUnlikeAsMayBe(t *testing.T) {
	const n = api.MaxInts
	up := row{"rising", rising(n), greatest}
	m := made(t, up)
	wantTop(t, up, m, math.MinInt, math.MaxInt, math.MaxInt, onceEach(0, n))
	wantTop(t, up, m, n-9000, math.MaxInt, 50, onceEach(n-9000, 50))
	wantTops(t, up, m, n-50, n, onceEach(n-50, 50))
	wantTops(t, up, m, n-1, n+1, onceEach(n-1, 1))
	wantTops(t, up, m, math.MinInt, 2, onceEach(0, 2))
	wantTops(t, up, m, n, math.MaxInt, nil)
	wantTops(t, up, m, n-1, n-1, nil)
	down := row{"falling", falling(n), greatest}
	wantTop(t, down, made(t, down), 7, n-9, 3, onceEach(9, 3))
}

func TestAsManyLikeOnesAsMayBe(t *testing.T) {
	const n = api.MaxInts
	alike := row{"alike", slices.Repeat([]int{77}, n), greatest}
	m := made(t, alike)
	wantTops(t, alike, m, math.MinInt, math.MaxInt, []api.Pair{{Symbol: 77, Count: n}})
	wantTops(t, alike, m, 5, n, []api.Pair{{Symbol: 77, Count: n - 5}})
	zeros := row{"noughts", make([]int, n), 0}
	wantTops(t, zeros, made(t, zeros), -1, n+1, []api.Pair{{Symbol: 0, Count: n}})
	pairs := row{"pairs, and one thrice", with(numbers(n, func(i int) int { return (n - 1 - i) / 2 }), 0, 12345), n / 2}
	wantTop(t, pairs, made(t, pairs), 0, n, 3, []api.Pair{{Symbol: 12345, Count: 3}, {Symbol: 0, Count: 2}, {Symbol: 1, Count: 2}})
}

func TestTheBestFewOfMany(t *testing.T) {
	// A search that went over all unlike numbers for each answer would take too long.
	r := row{"half alike", scattered(1<<20, 1<<20, 8), 1<<20 - 1}
	for i := range r.l {
		if i%2 == 1 {
			r.l[i] = 1<<19 + i%3
		}
	}
	m := made(t, r)
	for i := range 4000 {
		a, b := i, len(r.l)-2*i
		l := Top(m, a, b, 3)
		if len(l) != 3 || l[0].Count < l[1].Count || l[1].Count < l[2].Count || l[2].Count < (b-a)/8 {
			t.Fatalf("Top(%d, %d, 3): %v", a, b, l)
		}
	}
}

// P18.2

func TestStepsWrittenOut(t *testing.T) {
	type told struct {
		p    api.Pair
		told bool
	}
	none := told{}
	it := func(symbol, count int) told { return told{api.Pair{Symbol: symbol, Count: count}, true} }
	for _, x := range []struct {
		r     row
		a, b  int
		steps []told
	}{
		// Six of three below 4; four below 2 and two from 2 on; 1 thrice, and 2 twice, of which 3 isn't there; 0 once.
		{row{"three", []int{2, 1, 0, 1, 2, 1}, 3}, 0, 6, []told{none, none, it(1, 3), none, it(2, 2), it(0, 1)}},
		// Like parts: that of the lesser numbers first; then the like ones of one level and of the next.
		{row{"like parts", []int{3, 0, 2, 1}, 3}, 0, 4, []told{none, none, none, it(0, 1), it(1, 1), it(2, 1), it(3, 1)}},
		{row{"like halves", []int{1, 1, 3, 3}, 3}, 0, 4, []told{none, none, it(1, 2), none, it(3, 2)}},
		{row{"a part as great as a number", []int{0, 0, 2, 3, 0, 2}, 3}, 0, 6, []told{none, none, it(0, 3), none, it(2, 2), it(3, 1)}},
		{row{"a number as great as a part", []int{3, 3, 3, 0, 1, 0}, 3}, 0, 6, []told{none, none, none, it(3, 3), it(0, 2), it(1, 1)}},
		{row{"one level", []int{1, 0, 1}, 1}, 0, 3, []told{none, it(1, 2), it(0, 1)}}, {row{"one level, alike", []int{1, 1}, 1}, 0, 2, []told{none, it(1, 2)}}, {row{"noughts", []int{0, 0, 0}, 0}, 1, 3, []told{none, it(0, 2)}},
		// Halves that aren't there are none: as many Steps as levels, and one.
		{row{"one number", []int{5}, 7}, 0, 1, []told{none, none, none, it(5, 1)}}, {row{"one of nine levels", []int{9, 256, 9}, 511}, 0, 1, []told{none, none, none, none, none, none, none, none, none, it(9, 1)}},
		{row{"no number", []int{5}, 7}, 1, 1, nil}, {row{"no row", nil, 7}, 0, 9, nil},
	} {
		s := New(made(t, x.r), x.a, x.b)
		for k, want := range x.steps {
			if p, is, more := s.Step(); p != want.p || is != want.told || !more {
				t.Fatalf("%s: Step number %d: %v, %v, %v, not %v", x.r.name, k, p, is, more, want)
			}
		}
		wantEnd(t, s)
		wantSteps(t, x.r, made(t, x.r), x.a, x.b)
	}
}

func TestNextWrittenOut(t *testing.T) {
	s := New(made(t, row{"some", []int{3, 1, 3, 0, 1, 2, 0, 0}, 3}), 0, 8)
	for _, want := range []api.Pair{{Symbol: 0, Count: 3}, {Symbol: 1, Count: 2}, {Symbol: 3, Count: 2}, {Symbol: 2, Count: 1}} {
		if p, told := s.Next(); p != want || !told {
			t.Fatalf("%v, %v, not %v", p, told, want)
		}
	}
	wantEnd(t, s)
}

func TestNextIsTopOfEachCount(t *testing.T) {
	for _, r := range append(longRows(3, 40, 90), someRows()...) {
		m, n := made(t, r), len(r.l)
		s := New(m, 0, n)
		for k := 1; ; k++ {
			p, told := s.Next()
			all := Top(m, 0, n, k)
			if !told {
				if len(all) != k-1 {
					t.Fatalf("%s: Next tells %d, Top %d", r.name, k-1, len(all))
				}
				break
			}
			if len(all) != k || all[k-1] != p {
				t.Fatalf("%s: Next number %d: %v, Top: %v", r.name, k, p, few(all))
			}
		}
	}
}

func TestSearchesOfEmptyRanges(t *testing.T) {
	least, greatest := math.MinInt, math.MaxInt
	for _, r := range append(someRows(), row{"many", scattered(200, 30, 7), 29}) {
		m, n := made(t, r), len(r.l)
		for _, w := range []struct{ a, b int }{
			{0, 0}, {n / 2, n / 2}, {n, n}, {n, n + 1}, {n, greatest}, {n + 1, n + 9}, {greatest, greatest}, {greatest - 1, greatest}, {-1, 0}, {-9, -1}, {least, 0}, {least, least}, {least, least + 1}, {n, 0}, {n/2 + 1, n / 2}, {1, 0}, {0, -1}, {n + 1, n}, {greatest, least}, {greatest, 0}, {greatest, n}, {0, least}, {n, least},
		} {
			s := New(m, w.a, w.b)
			if s == nil {
				t.Fatalf("%s: New(%d, %d): nil", r.name, w.a, w.b)
			}
			wantEnd(t, s)
			wantTops(t, r, m, w.a, w.b, nil)
		}
	}
}

func TestStepsAndNextsInTurn(t *testing.T) {
	turns := []func(i int) bool{
		func(i int) bool { return i%2 == 0 }, func(i int) bool { return i%2 == 1 }, func(i int) bool { return i%5 == 4 }, func(i int) bool { return i%7 < 3 }, func(i int) bool { return i > 6 }, func(i int) bool { return i == 0 }, func(i int) bool { return i*i%11 == 1 },
	}
	for _, r := range append(longRows(2, 9, 50), someRows()...) {
		m, n := made(t, r), len(r.l)
		for _, w := range []struct{ a, b int }{{0, n}, {1, n - 1}, {n / 3, n + 4}, {-3, n / 2}} {
			in := rangeBy(r.l, w.a, w.b)
			for _, next := range turns {
				s, by := New(m, w.a, w.b), searchBy(in, 1<<widthBy(r.most))
				for i := 0; len(by.left) > 0; i++ {
					if next(i) {
						wantNext(t, r, s, by)
					} else {
						wantStep(t, r, s, by)
					}
				}
				wantEnd(t, s)
			}
		}
	}
}

func TestNextsFromEachStepOn(t *testing.T) {
	r := row{"scattered", scattered(60, 14, 9), 15}
	m := made(t, r)
	for steps := range 50 {
		s, by := New(m, 5, 58), searchBy(r.l[5:58], 16)
		for range steps {
			wantStep(t, r, s, by)
		}
		for range 16 {
			wantNext(t, r, s, by)
		}
		wantEnd(t, s)
	}
}

func TestBehindTheEndAgainAndAgain(t *testing.T) {
	for _, r := range someRows() {
		m := made(t, r)
		s, o := New(m, 0, len(r.l)), New(m, 0, len(r.l))
		for told := true; told; {
			_, told = s.Next()
		}
		for more := true; more; {
			_, _, more = o.Step()
		}
		for range 100 {
			wantEnd(t, s)
			wantEnd(t, o)
		}
	}
}

// P18.3

func TestNoMoreIdleStepsThanThereMayBe(t *testing.T) {
	for _, r := range longRows(1, 2, 30, 300, 2000) {
		m, n := made(t, r), len(r.l)
		for _, w := range []struct{ a, b int }{{0, n}, {1, n}, {0, n - 1}, {n / 3, n - n/3}, {n / 2, n/2 + 2}, {-1, n + 1}} {
			wantIdle(t, r, m, w.a, w.b, bestBy(rangeBy(r.l, w.a, w.b)))
		}
	}
}

func TestIdleStepsWrittenOut(t *testing.T) {
	// All unlike and as often: each of the halves is taken ahead of the first number, as it is greater.
	for w := 1; w <= 12; w++ {
		n := 1 << w
		s := New(made(t, row{"rising", rising(n), n - 1}), 0, n)
		for i := range n - 1 {
			if p, told, more := s.Step(); p != (api.Pair{}) || told || !more {
				t.Fatalf("%d levels: Step number %d: %v, %v, %v", w, i, p, told, more)
			}
		}
		for i := range n {
			if p, told, more := s.Step(); p != (api.Pair{Symbol: i, Count: 1}) || !told || !more {
				t.Fatalf("%d levels: Step number %d behind: %v, %v, %v", w, i, p, told, more)
			}
		}
		wantEnd(t, s)
	}
}

// A nil matrix, a nil search.

func TestNilMatrix(t *testing.T) {
	places := append([]int{0, 1, 2, 64}, extremes...)
	for _, a := range places {
		for _, b := range places {
			for _, k := range counts(3) {
				if l := Top(nil, a, b, k); len(l) != 0 {
					t.Errorf("Top(nil, %d, %d, %d): %v", a, b, k, l)
				}
			}
			s := New(nil, a, b)
			if s == nil {
				t.Fatalf("New(nil, %d, %d): nil", a, b)
			}
			wantEnd(t, s)
		}
	}
}

func TestNilSearch(t *testing.T) {
	var s *Search
	wantEnd(t, s)
	wantEnd(t, &Search{})
}

// What is handed in, and out.

// wantSame holds that a matrix answers as its row asks.
func wantSame(t *testing.T, r row, m *wave.Matrix, levels [][]bool) {
	t.Helper()
	if m.Len() != len(r.l) || len(levels) != len(m.Levels()) {
		t.Fatalf("%s: the matrix changed", r.name)
	}
	for k, l := range bitsOf(m) {
		if !slices.Equal(l, levels[k]) {
			t.Fatalf("%s: level %d of the matrix changed", r.name, k)
		}
	}
	for i, x := range r.l {
		if m.At(i) != x || m.Quantile(i, i+1, 0) != x {
			t.Fatalf("%s: number %d of the matrix changed", r.name, i)
		}
	}
	all := m.Distinct(0, len(r.l))
	slices.SortFunc(all, betterBy)
	if !slices.Equal(all, bestBy(r.l)) {
		t.Fatalf("%s: the matrix's numbers changed", r.name)
	}
}

// bitsOf answers the bits of each level of a matrix.
func bitsOf(m *wave.Matrix) [][]bool {
	var levels [][]bool
	for _, v := range m.Levels() {
		l := make([]bool, v.Len())
		for i := range l {
			l[i] = v.At(i)
		}
		levels = append(levels, l)
	}
	return levels
}

func TestTheMatrixIsLeftAsItIs(t *testing.T) {
	for _, r := range append(someRows(), longRows(70)...) {
		m, n := made(t, r), len(r.l)
		levels := bitsOf(m)
		for _, w := range []struct{ a, b int }{{0, n}, {n / 3, n - 1}, {-1, n + 1}, {n, 0}, {math.MinInt, math.MaxInt}} {
			for _, k := range []int{-1, 0, 2, n, math.MaxInt} {
				Top(m, w.a, w.b, k)
				wantSame(t, r, m, levels)
			}
			s := New(m, w.a, w.b)
			wantSame(t, r, m, levels)
			for range 5 {
				s.Step()
				wantSame(t, r, m, levels)
				s.Next()
				wantSame(t, r, m, levels)
			}
		}
		check(t, r, m)
		wantSame(t, r, m, levels)
	}
}

func TestAnswersAreNewMemory(t *testing.T) {
	for _, r := range append(longRows(33), someRows()...) {
		m, n := made(t, r), len(r.l)
		for _, x := range []api.Pair{{}, {Symbol: 7, Count: 1}, {Symbol: -1, Count: math.MaxInt}, {Symbol: math.MinInt, Count: n}} {
			s, by := New(m, 0, n), searchBy(r.l, 1<<widthBy(r.most))
			first, second, third := Top(m, 0, n, n), Top(m, 0, n, 2), Top(m, 0, n, n)
			wantNext(t, r, s, by)
			spoil(first, x)
			spoil(second, x)
			if !slices.Equal(third, bestBy(r.l)) {
				t.Fatalf("%s: an answer changed another one: %v", r.name, few(third))
			}
			spoil(third, x)
			for len(by.left) > 0 {
				wantStep(t, r, s, by)
				spoil(Top(m, 0, n, 3), x)
			}
			wantEnd(t, s)
			wantRange(t, r, m, 0, n)
		}
	}
}

func TestALevelLaidElsewhereTurnsNoSearch(t *testing.T) {
	r := row{"scattered", scattered(90, 12, 17), 15}
	m := made(t, r)
	other := made(t, row{"other", numbers(90, func(i int) int { return 15 - i%16 }), 15})
	s, by := New(m, 3, 80), searchBy(r.l[3:80], 16)
	for len(by.left) > 0 {
		// What Levels answers is the caller's: it may lay another list there.
		levels, others := m.Levels(), other.Levels()
		for k := range levels {
			*levels[k] = *others[k]
			levels[k] = nil
		}
		wantStep(t, r, s, by)
	}
	wantEnd(t, s)
	wantRange(t, r, m, 0, 90)
}

func TestTheSearchIsOfTheRowAsItWas(t *testing.T) {
	l := scattered(60, 9, 19)
	r := row{"scattered", slices.Clone(l), 8}
	m, e := wave.New(l, 8)
	if e != api.OK {
		t.Fatal(e)
	}
	s, by := New(m, 0, 60), searchBy(r.l, 16)
	wantNext(t, r, s, by)
	spoil(l, 8)
	for len(by.left) > 0 {
		wantNext(t, r, s, by)
	}
	wantEnd(t, s)
	check(t, r, m)
}

// Searches beside one another.

func TestTwoSearchesOverOneMatrix(t *testing.T) {
	for _, r := range append(longRows(3, 40), someRows()...) {
		m, n := made(t, r), len(r.l)
		for _, w := range []struct{ a, b, c, d int }{{0, n, 0, n}, {0, n, n / 3, n}, {0, n / 2, n / 2, n}, {1, n, 0, n - 1}, {0, n, n, n}} {
			s, o := New(m, w.a, w.b), New(m, w.c, w.d)
			by, also := searchBy(rangeBy(r.l, w.a, w.b), 1<<widthBy(r.most)), searchBy(rangeBy(r.l, w.c, w.d), 1<<widthBy(r.most))
			for i := 0; len(by.left) > 0 || len(also.left) > 0; i++ {
				wantStep(t, r, s, by)
				if i%3 == 0 {
					wantNext(t, r, o, also)
				}
				wantStep(t, r, o, also)
				if i%4 == 0 {
					wantTop(t, r, m, 0, n, 1, bestBy(r.l))
				}
			}
			wantEnd(t, s)
			wantEnd(t, o)
		}
	}
}

func TestManySearchesInTurn(t *testing.T) {
	r := row{"scattered", scattered(120, 20, 23), 19}
	m := made(t, r)
	var all []*Search
	var by []*search
	for k := range 40 {
		a, b := k, 120-2*k
		all, by = append(all, New(m, a, b)), append(by, searchBy(rangeBy(r.l, a, b), 32))
	}
	for i := range 130 {
		for k, s := range all {
			if (i+k)%6 == 0 {
				wantNext(t, r, s, by[k])
			} else {
				wantStep(t, r, s, by[k])
			}
		}
	}
	for _, s := range all {
		wantEnd(t, s)
	}
}

func TestSearchesOfMatricesBesideOneAnother(t *testing.T) {
	rows := append(someRows(), longRows(20)...)
	var all []*Search
	for _, r := range rows {
		all = append(all, New(made(t, r), 0, len(r.l)))
	}
	for k, r := range slices.Backward(rows) {
		by := searchBy(r.l, 1<<widthBy(r.most))
		for len(by.left) > 0 {
			wantStep(t, r, all[k], by)
		}
		wantEnd(t, all[k])
	}
}

func TestAnswersDontHangOnThoseAhead(t *testing.T) {
	r := row{"scattered", scattered(200, 12, 41), 12}
	m := made(t, r)
	for i := range 300 {
		a, b, k := i*7919%203-1, i*104729%205-1, i%9
		first := Top(m, a, b, k)
		New(m, a, b).Next()
		Top(m, b, a, k+1)
		Top(m, math.MinInt, math.MaxInt, 1)
		for _, x := range []*wave.Matrix{m, made(t, r)} {
			if l := Top(x, a, b, k); !slices.Equal(l, first) {
				t.Fatalf("Top(%d, %d, %d): %v, then %v", a, b, k, first, l)
			}
		}
	}
	check(t, r, m)
	check(t, r, m)
}

// The collection's own rows.

// collection is documents by a name.
type collection struct {
	name string
	docs [][]byte
}

// texts answers a collection of these documents.
func texts(name string, docs ...string) collection {
	c := collection{name: name}
	for _, d := range docs {
		c.docs = append(c.docs, []byte(d))
	}
	return c
}

// parted answers documents of b, each so many bytes.
func parted(name string, b []byte, size int) collection {
	return collection{name, slices.Collect(slices.Chunk(b, size))}
}

// scatteredBytes answers n bytes from this one on, of so many unlike ones, that look like no rule.
func scatteredBytes(n, unlike int, from byte, seed uint64) []byte {
	b := make([]byte, n)
	for i, x := range scattered(n, unlike, seed) {
		b[i] = from + byte(x)
	}
	return b
}

// layered is a collection with the layers below over it.
type layered struct {
	collection
	x *text.Text
	r row
	f *find.Finder
	m *wave.Matrix
}

// lay lays the layers over a collection that isn't empty.
func lay(t *testing.T, c collection) layered {
	t.Helper()
	x, e := text.New(c.docs...)
	if e != api.OK {
		t.Fatalf("%s: text: %v", c.name, e)
	}
	s := x.Symbols()
	sa, e := suffix.Array(s, x.Alphabet())
	if e != api.OK {
		t.Fatalf("%s: suffix: %v", c.name, e)
	}
	da, e := docs.Array(x, sa)
	if e != api.OK {
		t.Fatalf("%s: docs: %v", c.name, e)
	}
	f, e := find.New(s, sa, x.Alphabet(), 8)
	if e != api.OK {
		t.Fatalf("%s: find: %v", c.name, e)
	}
	r := row{c.name, da, api.MaxDocs - 1}
	return layered{c, x, r, f, made(t, r)}
}

// lookedFor answers by looking how often p stands in each document in which it does, the best first.
func lookedFor(c collection, p []byte) []api.Pair {
	var l []api.Pair
	for d, b := range c.docs {
		many := 0
		for i := range b {
			if bytes.HasPrefix(b[i:], p) {
				many++
			}
		}
		if many > 0 {
			l = append(l, api.Pair{Symbol: d, Count: many})
		}
	}
	slices.SortFunc(l, betterBy)
	return l
}

// wantPattern holds what a pattern's range answers against looking.
func wantPattern(t *testing.T, c layered, p []byte) {
	t.Helper()
	a, b := c.f.Range(c.x.Pattern(p))
	all := lookedFor(c.collection, p)
	for _, k := range []int{0, 1, 2, len(all) - 1, len(all), len(all) + 1} {
		wantTop(t, c.r, c.m, a, b, k, all)
	}
	wantNexts(t, c.r, c.m, a, b, all)
	wantIdle(t, c.r, c.m, a, b, all)
}

// patterns answers all unlike patterns of so many bytes at most that stand in a document.
func patterns(c collection, longest int) [][]byte {
	had := map[string]bool{}
	var ps [][]byte
	for _, d := range c.docs {
		for i := range d {
			for many := 1; many <= min(longest, len(d)-i); many++ {
				if p := d[i : i+many]; !had[string(p)] {
					had[string(p)] = true
					ps = append(ps, p)
				}
			}
		}
	}
	return ps
}

func TestTheWholesExample(t *testing.T) {
	c := lay(t, texts("the whole's example", "banana", "ananas", "nab"))
	a, b := c.f.Range(c.x.Pattern([]byte("a")))
	if l := Top(c.m, a, b, 2); !slices.Equal(l, []api.Pair{{Symbol: 0, Count: 3}, {Symbol: 1, Count: 3}}) {
		t.Errorf("%v", l)
	}
	if l := Top(c.m, a, b, 3); !slices.Equal(l, []api.Pair{{Symbol: 0, Count: 3}, {Symbol: 1, Count: 3}, {Symbol: 2, Count: 1}}) {
		t.Errorf("%v", l)
	}
	a, b = c.f.Range(c.x.Pattern([]byte("an")))
	if l := Top(c.m, a, b, 5); !slices.Equal(l, []api.Pair{{Symbol: 0, Count: 2}, {Symbol: 1, Count: 2}}) {
		t.Errorf("%v", l)
	}
}

func TestEveryPatternOfSomeCollections(t *testing.T) {
	all := make([]byte, 256)
	for i := range all {
		all[i] = byte(i)
	}
	for _, c := range []collection{
		texts("the whole's example", "banana", "ananas", "nab"), texts("one", "abracadabra"), texts("one byte", "a"), texts("empty ones", "", "ab", "", "", "b", ""), texts("like ones", "abab", "abab", "abab", "bab"), texts("beginnings", "a", "ab", "aba", "abab", "ababa"), texts("ends", "ababa", "baba", "aba", "ba", "a"),
		texts("alike", "a", "aaaa", "aa", "aaaaaaaa", "aaa"), texts("bytes like ends' numbers", "\x00\x01\x02", "\x01\x00", "\x02\x02\x00\x01", "\x00"), texts("the greatest byte", "\xff\xff", "\xff\x00\xff", "\x00\xff\xff\xff"), texts("nothing in common", "abc", "def", "ghi", "jkl"),
		parted("each byte", all, 16), parted("two", scatteredBytes(300, 2, 'a', 1), 37), parted("three", scatteredBytes(400, 3, 0, 2), 11), parted("bytes", scatteredBytes(500, 256, 0, 3), 90), parted("one a document", scatteredBytes(60, 4, 'x', 4), 1), parted("as many documents as may be", scatteredBytes(2*api.MaxDocs, 3, 'a', 5), 2),
	} {
		y := lay(t, c)
		for _, p := range patterns(c, 8) {
			wantPattern(t, y, p)
			wantPattern(t, y, append(slices.Clone(p), p[0]))
			wantPattern(t, y, append(slices.Clone(p), p[len(p)-1]+1))
		}
		check(t, y.r, y.m)
	}
}

func TestCollectionsOfAsMuchAsMayBe(t *testing.T) {
	again := func(s string, n int) []byte { return bytes.Repeat([]byte(s), n/len(s)+1)[:n] }
	uneven := collection{name: "one letter, uneven"}
	for d := range api.MaxDocs {
		uneven.docs = append(uneven.docs, again("a", d*2))
	}
	for _, x := range []struct {
		collection
		longest int
	}{
		{parted("two letters", scatteredBytes(api.MaxText, 2, 'a', 22), 256), 5}, {parted("bytes", scatteredBytes(api.MaxText, 256, 0, 23), 256), 1}, {parted("like ones", again("abcab", api.MaxText), 256), 5}, {parted("one letter", again("a", api.MaxText), 256), 20}, {parted("one document", scatteredBytes(api.MaxText, 3, 'a', 24), api.MaxText), 3}, {uneven, 40},
	} {
		y := lay(t, x.collection)
		for _, p := range patterns(x.collection, x.longest) {
			wantPattern(t, y, p)
		}
		all := bestBy(y.r.l)
		wantTops(t, y.r, y.m, 0, len(y.r.l), all)
		wantNexts(t, y.r, y.m, 0, len(y.r.l), all)
		wantIdle(t, y.r, y.m, 0, len(y.r.l), all)
	}
}
