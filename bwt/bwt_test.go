package bwt

import (
	"math"
	"math/bits"
	"slices"
	"strconv"
	"testing"

	"colophon/api"
	"colophon/suffix"
)

// extremes are numbers of no alphabet and places of no list.
var extremes = []int{
	-1, -2, -3, -256, -api.MaxInts, math.MinInt32, math.MinInt, math.MinInt + 1,
	api.MaxInts, api.MaxInts + 1, 1 << 24, math.MaxInt32, 1 << 32, 1<<32 + 1, math.MaxInt - 1, math.MaxInt,
}

// banana has the chapter's example: a as 1, b as 2, n as 3, and an end.
var banana = []int{2, 1, 3, 1, 3, 1, 0}

// turnedBanana is its turned row, with the whole list's suffix at 4.
var turnedBanana = []int{1, 3, 3, 2, 0, 1, 1}

// numbers answers n numbers by a rule.
func numbers(n int, rule func(i int) int) []int {
	l := make([]int, n)
	for i := range l {
		l[i] = rule(i)
	}
	return l
}

// rising answers the numbers below n.
func rising(n int) []int {
	return numbers(n, func(i int) int { return i })
}

// falling answers the numbers below n, the greatest first.
func falling(n int) []int {
	return numbers(n, func(i int) int { return n - 1 - i })
}

// steps answers the numbers below n, each so much behind the one ahead of it, going round.
func steps(n, step int) []int {
	return numbers(n, func(i int) int { return i * step % n })
}

// scattered answers n numbers below bound that look like no rule.
func scattered(n, bound int, seed uint64) []int {
	x := seed
	return numbers(n, func(int) int {
		x = x*6364136223846793005 + 1442695040888963407
		return int((x >> 33) % uint64(bound))
	})
}

// shuffled answers the numbers below n in an order that looks like no rule.
func shuffled(n int, seed uint64) []int {
	l := rising(n)
	for i, x := range scattered(n, math.MaxInt32, seed) {
		k := x % (i + 1)
		l[i], l[k] = l[k], l[i]
	}
	return l
}

// again answers a part said so many times, with what stands behind.
func again(part []int, times int, behind ...int) []int {
	return append(slices.Repeat(part, times), behind...)
}

// letters answers the bytes of s, with an end.
func letters(s string) []int {
	return append(numbers(len(s), func(i int) int { return int(s[i]) }), 0)
}

// raised answers the numbers of l, each so much greater, with an end.
func raised(l []int, by int) []int {
	return append(numbers(len(l), func(i int) int { return l[i] + by }), 0)
}

// of answers the numbers that stand at these places among those that can be.
func of(l []int, among ...int) []int {
	return numbers(len(l), func(i int) int { return among[l[i]] })
}

// withRoom answers a list like l, with a spare room filled by fill.
func withRoom(l []int, fill int) []int {
	k := make([]int, len(l), len(l)+5)
	copy(k, l)
	spoil(k[len(k):cap(k)], fill)
	return k
}

// spoil lays x everywhere in l, its spare room too.
func spoil(l []int, x int) {
	l = l[:cap(l)]
	for i := range l {
		l[i] = x
	}
}

// with answers l with x at this place.
func with(l []int, at, x int) []int {
	k := slices.Clone(l)
	k[at] = x
	return k
}

// every calls f with each list of n numbers below bound.
func every(n, bound int, f func(l []int)) {
	l := make([]int, n)
	if n > 0 && bound == 0 {
		return
	}
	for {
		f(l)
		i := 0
		for ; i < n && l[i] == bound-1; i++ {
			l[i] = 0
		}
		if i == n {
			return
		}
		l[i]++
	}
}

// isOrder tells whether l has each number below its length once.
func isOrder(l []int) bool {
	there := make([]bool, len(l))
	for _, x := range l {
		if x < 0 || x >= len(l) || there[x] {
			return false
		}
		there[x] = true
	}
	return true
}

// orders answers each order of the numbers below n.
func orders(n int) [][]int {
	var all [][]int
	every(n, n, func(l []int) {
		if isOrder(l) {
			all = append(all, slices.Clone(l))
		}
	})
	return all
}

// orderOf answers the places of l in the order of their suffixes.
func orderOf(l []int) []int {
	sa := rising(len(l))
	slices.SortFunc(sa, func(a, b int) int { return slices.Compare(l[a:], l[b:]) })
	return sa
}

// turnedBy answers by the chapter's words the turned row of l with each place of it once.
func turnedBy(l, sa []int) []int {
	return numbers(len(sa), func(i int) int {
		if sa[i] == 0 {
			return l[len(l)-1]
		}
		return l[sa[i]-1]
	})
}

// belowBy tells by the chapter's words how many numbers of b are below c.
func belowBy(b []int, c int) int {
	n := 0
	for _, x := range b {
		if x < c {
			n++
		}
	}
	return n
}

// mayBeCounted tells by the chapter's words whether b and alphabet are as Counts has them.
func mayBeCounted(b []int, alphabet int) bool {
	return alphabet >= 0 && alphabet <= api.MaxInts && !slices.ContainsFunc(b, func(x int) bool { return x < 0 || x >= alphabet })
}

// endsLeast tells by the chapter's words whether the last number of l is there once and is the least one.
func endsLeast(l []int) bool {
	if len(l) == 0 {
		return false
	}
	last := l[len(l)-1]
	return !slices.ContainsFunc(l[:len(l)-1], func(x int) bool { return x <= last })
}

// name answers a text for numbers.
func name(l []int) string {
	s := ""
	for _, x := range l {
		s += strconv.Itoa(x) + " "
	}
	return s
}

// turned is a turned row, and where in it the whole list's suffix is.
type turned struct {
	row   string
	whole int
}

// listsOf answers each list of n numbers below bound whose last number is there once and is the least one, by its turned row and where the whole list's suffix is.
func listsOf(t *testing.T, n, bound int) map[turned][]int {
	t.Helper()
	lists := map[turned][]int{}
	every(n, bound, func(l []int) {
		if endsLeast(l) {
			sa := orderOf(l)
			at := turned{name(turnedBy(l, sa)), slices.Index(sa, 0)}
			if k, ok := lists[at]; ok {
				t.Fatalf("%v and %v have one turned row", k, l)
			}
			lists[at] = slices.Clone(l)
		}
	})
	return lists
}

// checkMake holds what Make answers of each place of l once against the chapter's words.
func checkMake(t *testing.T, l, sa []int) {
	t.Helper()
	b, e := Make(l, sa)
	if want := turnedBy(l, sa); e != api.OK || !slices.Equal(b, want) {
		t.Fatalf("%v by %v: %v, %v, not %v", l, sa, b, e, want)
	}
}

// refusedMake holds that Make refuses these.
func refusedMake(t *testing.T, l, sa []int) {
	t.Helper()
	if b, e := Make(l, sa); e != api.ErrArg || len(b) != 0 {
		t.Errorf("%d numbers by %d: %d numbers, %v", len(l), len(sa), len(b), e)
	}
}

// P11.1

func TestMakeWrittenOut(t *testing.T) {
	least, greatest := math.MinInt, math.MaxInt
	for _, x := range []struct{ t, sa, want []int }{
		{nil, nil, nil}, {nil, []int{}, nil}, {[]int{}, nil, nil}, {[]int{}, []int{}, nil}, {make([]int, 0, 3), make([]int, 0, 4), nil},
		{[]int{0}, []int{0}, []int{0}}, {[]int{7}, []int{0}, []int{7}}, {[]int{-7}, []int{0}, []int{-7}}, {[]int{least}, []int{0}, []int{least}}, {[]int{greatest}, []int{0}, []int{greatest}},
		{[]int{4, 5}, []int{0, 1}, []int{5, 4}}, {[]int{4, 5}, []int{1, 0}, []int{4, 5}}, {[]int{5, 4}, []int{1, 0}, []int{5, 4}}, {[]int{4, 4}, []int{1, 0}, []int{4, 4}}, {[]int{least, greatest}, []int{0, 1}, []int{greatest, least}}, {[]int{least, greatest}, []int{1, 0}, []int{least, greatest}},
		{[]int{1, 1, 0}, []int{2, 1, 0}, []int{1, 1, 0}}, {[]int{1, 2, 3}, []int{0, 1, 2}, []int{3, 1, 2}}, {[]int{1, 2, 3}, []int{2, 1, 0}, []int{2, 1, 3}}, {[]int{1, 2, 3}, []int{1, 2, 0}, []int{1, 2, 3}}, {[]int{1, 2, 3}, []int{2, 0, 1}, []int{2, 3, 1}},
		{[]int{6, 6, 6, 6}, []int{3, 2, 1, 0}, []int{6, 6, 6, 6}}, {[]int{6, 6, 6, 6}, []int{1, 3, 0, 2}, []int{6, 6, 6, 6}},
		{[]int{-1, 0, 1, greatest, least}, []int{4, 0, 1, 2, 3}, []int{greatest, least, -1, 0, 1}}, {[]int{greatest, -5, 1 << 40, -5}, []int{1, 3, 0, 2}, []int{greatest, 1 << 40, -5, -5}},
		{banana, []int{6, 5, 3, 1, 0, 4, 2}, turnedBanana}, {banana, []int{0, 1, 2, 3, 4, 5, 6}, []int{0, 2, 1, 3, 1, 3, 1}}, {banana, []int{6, 5, 4, 3, 2, 1, 0}, []int{1, 3, 1, 3, 1, 2, 0}}, {banana, []int{3, 0, 6, 2, 5, 1, 4}, []int{3, 0, 1, 1, 3, 2, 1}},
		{[]int{2, 1, 3, 1, 3, 1}, []int{5, 3, 1, 0, 4, 2}, []int{3, 3, 2, 1, 1, 1}},
	} {
		if b, e := Make(x.t, x.sa); e != api.OK || !slices.Equal(b, x.want) {
			t.Errorf("%v by %v: %v, %v, not %v", x.t, x.sa, b, e, x.want)
		}
	}
}

func TestMakeOfEveryShortListInEveryOrder(t *testing.T) {
	for _, x := range []struct{ n, bound int }{{0, 1}, {1, 2}, {2, 3}, {3, 3}, {4, 4}, {5, 3}, {6, 2}} {
		all := orders(x.n)
		every(x.n, x.bound, func(l []int) {
			for _, sa := range all {
				checkMake(t, l, sa)
				checkMake(t, of(l, math.MaxInt, math.MinInt, -1, 0), sa)
			}
		})
	}
}

func TestMakeOfLongerLists(t *testing.T) {
	for _, n := range []int{1, 2, 7, 8, 40, 255, 256, 257, 1000} {
		for _, l := range [][]int{rising(n), falling(n), make([]int, n), again([]int{math.MinInt}, n), scattered(n, 2, 1), scattered(n, math.MaxInt32, 2), again([]int{math.MaxInt, -1, math.MinInt}, n)[:n]} {
			for _, sa := range [][]int{orderOf(l), rising(n), falling(n), shuffled(n, 3), shuffled(n, 4)} {
				checkMake(t, l, sa)
			}
		}
	}
}

func TestMakeHasNoBoundOfItsOwn(t *testing.T) {
	const n = api.MaxInts + 1
	l := scattered(n, math.MaxInt32, 9)
	sa := steps(n, 2) // as n is odd, each place once
	checkMake(t, l, sa)
	refusedMake(t, l, with(sa, n-1, n))
	refusedMake(t, l, with(sa, n-1, 0))
	refusedMake(t, l, sa[:n-1])
	refusedMake(t, l[:n-1], sa)
}

func TestMakeOfShortListsOutsideEachOrder(t *testing.T) {
	for n := range 6 {
		l := shuffled(n, 8)
		every(n, n+3, func(places []int) {
			sa := numbers(n, func(i int) int { return places[i] - 1 }) // from -1 to one more than the length
			if isOrder(sa) {
				checkMake(t, l, sa)
			} else {
				refusedMake(t, l, sa)
			}
		})
	}
}

func TestMakeRefusesOtherPlaces(t *testing.T) {
	for _, n := range []int{1, 2, 3, 10, 500} {
		for _, sa := range [][]int{rising(n), falling(n), shuffled(n, 5)} {
			for _, at := range []int{0, n / 2, n - 1} {
				for _, x := range append([]int{n, n + 1, -n, (sa[at] + 1) % n, (sa[at] + n - 1) % n}, extremes...) {
					if x != sa[at] {
						refusedMake(t, falling(n), with(sa, at, x))
						refusedMake(t, make([]int, n), with(sa, at, x))
					}
				}
			}
		}
	}
}

func TestMakeRefusesOtherLengths(t *testing.T) {
	for n := range 12 {
		for m := range 12 {
			if n != m {
				refusedMake(t, make([]int, n), rising(m))
				refusedMake(t, rising(n), falling(m))
			}
		}
	}
	refusedMake(t, nil, []int{0})
	refusedMake(t, []int{}, []int{0})
	refusedMake(t, []int{0}, nil)
	refusedMake(t, []int{0}, []int{})
	refusedMake(t, banana, []int{6, 5, 3, 1, 0, 4})
	refusedMake(t, banana, []int{6, 5, 3, 1, 0, 4, 2, 7})
	refusedMake(t, banana, []int{6, 5, 3, 1, 0, 4, 2, 2})
	refusedMake(t, banana, []int{6, 5, 3, 1, 0, 4, 4})
	refusedMake(t, banana, []int{0, 0, 0, 0, 0, 0, 0})
	refusedMake(t, banana, []int{1, 2, 3, 4, 5, 6, 7})
	// What stands in the spare room is no place of the list.
	refusedMake(t, banana, rising(7)[:6])
	refusedMake(t, banana[:6], rising(7))
	checkMake(t, banana[:6], rising(9)[:6])
	checkMake(t, banana[2:5], rising(9)[:3])
}

func TestMakeLeavesItsLists(t *testing.T) {
	for _, x := range []struct{ t, sa []int }{
		{nil, nil}, {[]int{4}, []int{0}}, {banana, []int{6, 5, 3, 1, 0, 4, 2}}, {banana, rising(7)}, {make([]int, 50), shuffled(50, 1)},
		{banana, []int{0, 0, 1, 2, 3, 4, 5}}, {banana, []int{0, 1}}, {banana, []int{0, 1, 2, 3, 4, 5, -1}}, {[]int{}, []int{0}},
	} {
		l, sa := withRoom(x.t, 77), withRoom(x.sa, 78)
		heldT, heldSa := slices.Clone(l[:cap(l)]), slices.Clone(sa[:cap(sa)])
		held := func() bool { return slices.Equal(l[:cap(l)], heldT) && slices.Equal(sa[:cap(sa)], heldSa) }
		b, e := Make(l, sa)
		if !held() {
			t.Errorf("%v by %v: changed", x.t, x.sa)
		}
		kept := slices.Clone(b)
		spoil(l, 3)
		spoil(sa, 0)
		if !slices.Equal(b, kept) {
			t.Errorf("%v by %v: what is answered hangs on the lists", x.t, x.sa)
		}
		copy(l[:cap(l)], heldT)
		copy(sa[:cap(sa)], heldSa)
		spoil(b, -9)
		if !held() {
			t.Errorf("%v by %v: the lists hang on what is answered", x.t, x.sa)
		}
		once, f := Make(l, sa)
		if f != e || !slices.Equal(once, kept) {
			t.Errorf("%v by %v: once more: %v, %v, not %v, %v", x.t, x.sa, once, f, kept, e)
		}
	}
}

func TestMakeOfOneListTwice(t *testing.T) {
	for n := range 9 {
		// One list as both: its numbers are its places.
		l := withRoom(shuffled(n, 4), n)
		checkMake(t, l, l)
	}
}

// checkCounts holds what Counts answers against the chapter's words, of a short b.
func checkCounts(t *testing.T, b []int, alphabet int) {
	t.Helper()
	l, e := Counts(b, alphabet)
	if !mayBeCounted(b, alphabet) {
		if e != api.ErrArg || len(l) != 0 {
			t.Errorf("%v of %d: %v, %v", b, alphabet, l, e)
		}
		return
	}
	if want := numbers(alphabet+1, func(c int) int { return belowBy(b, c) }); e != api.OK || !slices.Equal(l, want) {
		t.Errorf("%v of %d: %v, %v, not %v", b, alphabet, l, e, want)
	}
}

// refusedCounts holds that Counts refuses these.
func refusedCounts(t *testing.T, b []int, alphabet int) {
	t.Helper()
	if l, e := Counts(b, alphabet); e != api.ErrArg || len(l) != 0 {
		t.Errorf("%d numbers of %d: %d numbers, %v", len(b), alphabet, len(l), e)
	}
}

// P11.2

func TestCountsWrittenOut(t *testing.T) {
	for _, x := range []struct {
		b        []int
		alphabet int
		want     []int
	}{
		{nil, 0, []int{0}}, {[]int{}, 0, []int{0}}, {make([]int, 0, 3), 0, []int{0}}, {nil, 1, []int{0, 0}}, {[]int{}, 3, []int{0, 0, 0, 0}},
		{[]int{0}, 1, []int{0, 1}}, {[]int{0, 0, 0}, 1, []int{0, 3}}, {[]int{0}, 2, []int{0, 1, 1}}, {[]int{1}, 2, []int{0, 0, 1}}, {[]int{1, 1}, 3, []int{0, 0, 2, 2}},
		{[]int{2, 0, 2}, 3, []int{0, 1, 1, 3}}, {[]int{2, 0, 2}, 5, []int{0, 1, 1, 3, 3, 3}}, {[]int{0, 1, 2}, 3, []int{0, 1, 2, 3}}, {[]int{2, 1, 0}, 3, []int{0, 1, 2, 3}}, {[]int{3}, 4, []int{0, 0, 0, 0, 1}},
		{turnedBanana, 4, []int{0, 1, 4, 5, 7}}, {turnedBanana, 6, []int{0, 1, 4, 5, 7, 7, 7}},
	} {
		if l, e := Counts(x.b, x.alphabet); e != api.OK || !slices.Equal(l, x.want) {
			t.Errorf("%v of %d: %v, %v, not %v", x.b, x.alphabet, l, e, x.want)
		}
	}
}

func TestCountsOfEveryShortRow(t *testing.T) {
	for n := range 6 {
		every(n, 6, func(places []int) {
			b := numbers(n, func(i int) int { return places[i] - 1 }) // from -1 to 4
			for alphabet := -1; alphabet < 7; alphabet++ {
				checkCounts(t, b, alphabet)
			}
		})
	}
}

func TestCountsOfLongerRows(t *testing.T) {
	for _, n := range []int{10, 100, 1000} {
		for _, alphabet := range []int{1, 2, 3, 255, 256, 257, n - 1, n, n + 1, 3000} {
			checkCounts(t, scattered(n, alphabet, uint64(alphabet)), alphabet)
			checkCounts(t, scattered(n, min(alphabet, 5), 7), alphabet)
			checkCounts(t, again([]int{alphabet - 1}, n), alphabet)
			checkCounts(t, append(again([]int{0}, n), alphabet), alphabet)
		}
	}
}

func TestCountsOfTheGreatestAlphabet(t *testing.T) {
	for _, b := range [][]int{nil, {}, {0}, {api.MaxInts - 1}, {api.MaxInts - 1, 5, 0, 5, api.MaxInts - 2}, scattered(5000, api.MaxInts, 3), falling(api.MaxInts)} {
		l, e := Counts(b, api.MaxInts)
		if e != api.OK || len(l) != api.MaxInts+1 || l[0] != 0 || l[api.MaxInts] != len(b) {
			t.Fatalf("%d numbers: %d numbers, %v", len(b), len(l), e)
		}
		many := make([]int, api.MaxInts)
		for _, x := range b {
			many[x]++
		}
		for c := range many {
			if l[c+1] != l[c]+many[c] {
				t.Fatalf("%d numbers: %d below %d, %d below the next", len(b), l[c], c, l[c+1])
			}
		}
	}
	refusedCounts(t, []int{api.MaxInts}, api.MaxInts)
	refusedCounts(t, []int{0, -1}, api.MaxInts)
}

func TestCountsHasNoBoundOnItsRow(t *testing.T) {
	const n = api.MaxInts + 3
	b := numbers(n, func(i int) int { return i % 3 })
	if l, e := Counts(b, 4); e != api.OK || !slices.Equal(l, []int{0, (n + 2) / 3, (n+2)/3 + (n+1)/3, n, n}) {
		t.Errorf("%v, %v", l, e)
	}
	refusedCounts(t, with(b, n-1, 4), 4)
}

func TestCountsRefuses(t *testing.T) {
	for _, b := range [][]int{nil, {}, {0}, {0, 1, 0}, {-1}, {api.MaxInts + 1}} {
		for _, alphabet := range []int{-1, -2, -api.MaxInts, math.MinInt32, math.MinInt, math.MinInt + 1, api.MaxInts + 1, api.MaxInts + 2, 1 << 32, 1<<32 + 2, math.MaxInt - 1, math.MaxInt} {
			refusedCounts(t, b, alphabet)
		}
	}
	for _, n := range []int{1, 2, 10, 100} {
		for _, alphabet := range []int{0, 1, 2, 256, api.MaxInts} {
			for _, at := range []int{0, n / 2, n - 1} {
				for _, x := range append([]int{alphabet, alphabet + 1}, extremes...) {
					refusedCounts(t, with(make([]int, n), at, x), alphabet)
				}
			}
		}
	}
}

func TestCountsLeavesItsRow(t *testing.T) {
	for _, x := range []struct {
		b        []int
		alphabet int
	}{{nil, 0}, {nil, 3}, {[]int{0}, 1}, {turnedBanana, 4}, {turnedBanana, 9}, {turnedBanana, 3}, {[]int{1, -1}, 2}, {[]int{0}, -1}, {scattered(60, 9, 1), 9}} {
		b := withRoom(x.b, 77)
		held := slices.Clone(b[:cap(b)])
		l, e := Counts(b, x.alphabet)
		if !slices.Equal(b[:cap(b)], held) {
			t.Errorf("%v: changed", x.b)
		}
		kept := slices.Clone(l)
		spoil(b, 0)
		if !slices.Equal(l, kept) {
			t.Errorf("%v: what is answered hangs on the row", x.b)
		}
		copy(b[:cap(b)], held)
		spoil(l, -9)
		if !slices.Equal(b[:cap(b)], held) {
			t.Errorf("%v: the row hangs on what is answered", x.b)
		}
		once, f := Counts(b, x.alphabet)
		if f != e || !slices.Equal(once, kept) {
			t.Errorf("%v: once more: %v, %v, not %v, %v", x.b, once, f, kept, e)
		}
	}
}

// wantBack holds that Back answers just this.
func wantBack(t *testing.T, b []int, whole, alphabet int, want []int, wantE api.Errno) {
	t.Helper()
	if l, e := Back(b, whole, alphabet); e != wantE || !slices.Equal(l, want) {
		t.Errorf("%v, whole at %d, of %d: %v, %v, not %v, %v", b, whole, alphabet, l, e, want, wantE)
	}
}

// P11.3

func TestBackWrittenOut(t *testing.T) {
	for _, x := range []struct {
		b               []int
		whole, alphabet int
		want            []int
		e               api.Errno
	}{
		{nil, 0, 0, nil, api.OK}, {[]int{}, 0, 0, nil, api.OK}, {make([]int, 0, 3), 0, 5, nil, api.OK}, {nil, 0, api.MaxInts, nil, api.OK},
		{nil, 1, 0, nil, api.ErrArg}, {nil, -1, 0, nil, api.ErrArg}, {[]int{}, 1, 5, nil, api.ErrArg}, {[]int{}, -1, 5, nil, api.ErrArg}, {make([]int, 0, 3), 1, 5, nil, api.ErrArg}, {nil, 0, -1, nil, api.ErrArg}, {nil, 0, api.MaxInts + 1, nil, api.ErrArg},
		{[]int{0}, 0, 1, []int{0}, api.OK}, {[]int{3}, 0, 4, []int{3}, api.OK}, {[]int{3}, 0, 9, []int{3}, api.OK}, {[]int{api.MaxInts - 1}, 0, api.MaxInts, []int{api.MaxInts - 1}, api.OK},
		{[]int{0}, 1, 1, nil, api.ErrArg}, {[]int{0}, -1, 1, nil, api.ErrArg}, {[]int{3}, 0, 3, nil, api.ErrArg}, {[]int{0}, 0, 0, nil, api.ErrArg}, {[]int{-1}, 0, 4, nil, api.ErrArg},
		{[]int{1, 0}, 1, 2, []int{1, 0}, api.OK}, {[]int{1, 0}, 0, 2, nil, api.ErrForm}, {[]int{0, 1}, 0, 2, nil, api.ErrForm}, {[]int{0, 1}, 1, 2, nil, api.ErrForm}, {[]int{0, 0}, 0, 1, nil, api.ErrForm}, {[]int{0, 0}, 1, 1, nil, api.ErrForm}, {[]int{5, 3}, 1, 6, []int{5, 3}, api.OK},
		{[]int{1, 1, 0}, 2, 2, []int{1, 1, 0}, api.OK}, {[]int{1, 1, 0}, 0, 2, nil, api.ErrForm}, {[]int{1, 1, 0}, 1, 2, nil, api.ErrForm}, {[]int{1, 1, 0}, 3, 2, nil, api.ErrArg}, {[]int{1, 1, 0}, -1, 2, nil, api.ErrArg}, {[]int{1, 1, 0}, 2, 1, nil, api.ErrArg},
		{[]int{0, 1, 1}, 0, 2, nil, api.ErrForm}, {[]int{1, 0, 1}, 1, 2, nil, api.ErrForm},
		{[]int{1, 2, 0}, 2, 3, []int{2, 1, 0}, api.OK}, {[]int{2, 0, 1}, 1, 3, []int{1, 2, 0}, api.OK}, {[]int{1, 2, 0}, 1, 3, nil, api.ErrForm}, {[]int{2, 1, 0}, 2, 3, nil, api.ErrForm}, {[]int{1, 0, 2}, 1, 3, nil, api.ErrForm},
		{[]int{2, 3, 1}, 2, 4, []int{3, 2, 1}, api.OK}, {[]int{3, 1, 2}, 1, 4, []int{2, 3, 1}, api.OK},
		{turnedBanana, 4, 4, banana, api.OK}, {turnedBanana, 4, 256, banana, api.OK}, {turnedBanana, 4, api.MaxInts, banana, api.OK}, {turnedBanana, 4, 3, nil, api.ErrArg}, {turnedBanana, 7, 4, nil, api.ErrArg}, {turnedBanana, 3, 4, nil, api.ErrForm}, {turnedBanana, 0, 4, nil, api.ErrForm},
	} {
		wantBack(t, x.b, x.whole, x.alphabet, x.want, x.e)
	}
}

func TestBackOfEveryShortRowWithEveryWhole(t *testing.T) {
	for _, x := range []struct{ n, bound int }{{1, 4}, {2, 4}, {3, 5}, {4, 5}, {5, 5}, {6, 4}, {7, 3}, {8, 2}} {
		lists := listsOf(t, x.n, x.bound)
		found := 0
		every(x.n, x.bound, func(b []int) {
			row := name(b)
			for whole := range x.n {
				if l, ok := lists[turned{row, whole}]; ok {
					found++
					wantBack(t, b, whole, x.bound, l, api.OK)
					wantBack(t, b, whole, 1000, l, api.OK)
				} else {
					wantBack(t, b, whole, x.bound, nil, api.ErrForm)
					wantBack(t, b, whole, 1000, nil, api.ErrForm)
				}
			}
			wantBack(t, b, -1, x.bound, nil, api.ErrArg)
			wantBack(t, b, x.n, x.bound, nil, api.ErrArg)
		})
		if found != len(lists) || found == 0 {
			t.Errorf("%d numbers below %d: %d of %d lists", x.n, x.bound, found, len(lists))
		}
	}
}

// asBackHas holds that Back refuses these with ErrArg just when Counts would, or whole is no place.
func asBackHas(t *testing.T, b []int, whole, alphabet int) {
	t.Helper()
	l, e := Back(b, whole, alphabet)
	place := whole >= 0 && whole < len(b) || whole == 0 && len(b) == 0
	if (e == api.ErrArg) == (place && mayBeCounted(b, alphabet)) || e != api.OK && len(l) != 0 {
		t.Errorf("%v, whole at %d, of %d: %v, %v", b, whole, alphabet, l, e)
	}
}

func TestBackRefusesArgumentsAheadOfForms(t *testing.T) {
	for n := range 5 {
		every(n, 5, func(places []int) {
			b := numbers(n, func(i int) int { return places[i] - 1 }) // from -1 to 3
			for alphabet := -1; alphabet < 6; alphabet++ {
				for whole := -2; whole < n+2; whole++ {
					asBackHas(t, b, whole, alphabet)
				}
			}
		})
	}
	for _, b := range [][]int{nil, {}, {0}, {2}, {0, 0}, {0, 1, 1}, {1, 2, 0}, turnedBanana, make([]int, 300), scattered(300, 200, 1)} {
		for _, whole := range append([]int{0, len(b) / 2, len(b) - 1, len(b), len(b) + 1, -len(b)}, extremes...) {
			asBackHas(t, b, whole, 256)
			wantBack(t, b, whole, -1, nil, api.ErrArg)
			wantBack(t, b, whole, math.MinInt, nil, api.ErrArg)
			wantBack(t, b, whole, api.MaxInts+1, nil, api.ErrArg)
			wantBack(t, b, whole, math.MaxInt, nil, api.ErrArg)
		}
		for _, at := range []int{0, len(b) / 2, len(b) - 1} {
			for _, x := range append([]int{256, 257}, extremes...) {
				if len(b) > 0 {
					wantBack(t, with(b, at, x), 0, 256, nil, api.ErrArg)
					wantBack(t, with(b, at, x), len(b), 256, nil, api.ErrArg)
				}
			}
		}
	}
}

func TestBackRefusesTheLeastNumberTwice(t *testing.T) {
	for _, l := range [][]int{{1, 0, 2, 0}, {0, 0}, {0, 1, 0}, {3, 3}, {5, 2, 6, 2, 7, 2}, letters("banana\x00ananas"), append(letters("mississippi"), 0)} {
		b := turnedBy(l, orderOf(l))
		for whole := range b {
			wantBack(t, b, whole, 256, nil, api.ErrForm)
			wantBack(t, b, whole, api.MaxInts, nil, api.ErrForm)
		}
	}
	for _, n := range []int{2, 3, 100} {
		for whole := range n {
			wantBack(t, make([]int, n), whole, 1, nil, api.ErrForm)
			wantBack(t, again([]int{9}, n), whole, 10, nil, api.ErrForm)
		}
	}
}

func TestBackRefusesALastNumberThatIsNotTheLeast(t *testing.T) {
	// The turned rows of these are of one round, but the list ends otherwise.
	for _, l := range [][]int{{0, 1}, {0, 2, 1}, {1, 0, 1, 2}, {2, 1, 3, 1, 3, 1}, {5, 1, 5, 2, 5, 3}, rising(50), append(letters("banana"), 1), append(letters("ananas"), 200)} {
		b := turnedBy(l, orderOf(l))
		whole := slices.Index(orderOf(l), 0)
		wantBack(t, b, whole, 256, nil, api.ErrForm)
		wantBack(t, b, whole, api.MaxInts, nil, api.ErrForm)
	}
}

// rounds answers into how many rounds b falls apart, if each place leads to where its number stands among all in order, like ones as they stand in b.
func rounds(b []int) int {
	there := make([]bool, len(b))
	n := 0
	for p := range b {
		if there[p] {
			continue
		}
		n++
		for i := p; !there[i]; {
			there[i] = true
			ahead := 0
			for k, x := range b {
				if x < b[i] || x == b[i] && k < i {
					ahead++
				}
			}
			i = ahead
		}
	}
	return n
}

func TestBackRefusesSeveralRounds(t *testing.T) {
	for _, x := range []struct {
		b     []int
		whole int
	}{
		// The least number, there once, stands at whole; from there on the round doesn't come past all.
		{[]int{0, 1}, 0}, {[]int{0, 1, 1}, 0}, {[]int{1, 0, 1}, 1}, {[]int{1, 0, 2}, 1}, {[]int{2, 1, 0}, 2}, {[]int{0, 1, 2, 3}, 0}, {[]int{1, 0, 3, 2}, 1}, {[]int{1, 0, 2, 2, 2}, 1}, {[]int{3, 2, 1, 0}, 3},
		{[]int{1, 3, 2, 3, 0, 1, 1}, 4}, {slices.Concat([]int{0}, again([]int{1}, 60)), 0}, {slices.Concat([]int{1, 0}, again([]int{2}, 60)), 1}, {rising(90), 0}, {slices.Concat([]int{1, 0}, rising(90)[2:]), 1}, {append(falling(89), 89), 88},
	} {
		if rounds(x.b) < 2 {
			t.Errorf("%v: one round", x.b)
		}
		wantBack(t, x.b, x.whole, 90, nil, api.ErrForm)
		wantBack(t, x.b, x.whole, api.MaxInts, nil, api.ErrForm)
	}
	// Beside a round that is a list's, another one of one number alone.
	for _, l := range samples() {
		sa := orderOf(l)
		b := append(turnedBy(l, sa), 4000)
		wantBack(t, b, slices.Index(sa, 0), 4001, nil, api.ErrForm)
	}
}

// samples answers lists of all kinds whose last number is there once and is the least one, of numbers below 4000.
func samples() [][]int {
	return [][]int{
		{0}, {7}, {3999}, {1, 0}, {3999, 3998}, {1, 1, 0}, {6, 5, 4}, banana, letters("a"), letters("banana"), letters("ananas"), letters("mississippi"), letters("abracadabra"),
		raised(rising(60), 1), falling(60), raised(shuffled(60, 6), 1), raised(again([]int{0, 3}, 20), 3990), append(numbers(100, func(i int) int { return 3999 - i*i%77 }), 3900),
		again([]int{1}, 60, 0), again([]int{9}, 61, 8), again([]int{1, 2}, 30, 0), again([]int{2, 1}, 30, 0), again([]int{1, 2, 2}, 20, 0), again([]int{3, 1, 2}, 20, 0), again(again([]int{1, 2, 1, 3}, 3, 1, 4), 5, 0),
		raised(scattered(200, 2, 1), 1), raised(scattered(200, 3, 2), 1), raised(scattered(300, 256, 3), 3), raised(scattered(300, 3000, 4), 7),
	}
}

func TestBackRefusesAnotherWhole(t *testing.T) {
	for _, l := range samples() {
		sa := orderOf(l)
		b := turnedBy(l, sa)
		for whole := range b {
			if sa[whole] != 0 {
				wantBack(t, b, whole, 4000, nil, api.ErrForm)
			}
		}
		wantBack(t, b, -1, 4000, nil, api.ErrArg)
		wantBack(t, b, len(b), 4000, nil, api.ErrArg)
	}
}

func TestBackLeavesItsRow(t *testing.T) {
	for _, x := range []struct {
		b               []int
		whole, alphabet int
	}{{nil, 0, 0}, {nil, 1, 3}, {[]int{0}, 0, 1}, {turnedBanana, 4, 4}, {turnedBanana, 4, api.MaxInts}, {turnedBanana, 4, 3}, {turnedBanana, 5, 4}, {[]int{1, 0, 1}, 1, 2}, {[]int{1, -1}, 1, 2}, {[]int{0}, 0, -1}, {again([]int{1}, 60, 0), 60, 2}} {
		b := withRoom(x.b, 77)
		held := slices.Clone(b[:cap(b)])
		l, e := Back(b, x.whole, x.alphabet)
		if !slices.Equal(b[:cap(b)], held) {
			t.Errorf("%v: changed", x.b)
		}
		kept := slices.Clone(l)
		spoil(b, 0)
		if !slices.Equal(l, kept) {
			t.Errorf("%v: what is answered hangs on the row", x.b)
		}
		copy(b[:cap(b)], held)
		spoil(l, -9)
		if !slices.Equal(b[:cap(b)], held) {
			t.Errorf("%v: the row hangs on what is answered", x.b)
		}
		once, f := Back(b, x.whole, x.alphabet)
		if f != e || !slices.Equal(once, kept) {
			t.Errorf("%v: once more: %v, %v, not %v, %v", x.b, once, f, kept, e)
		}
	}
	// The spare room is none of the row's: whatever stands in it, the answers stay.
	b := withRoom(turnedBanana, 0)
	for _, x := range []int{math.MinInt, -1, 0, 2, math.MaxInt} {
		spoil(b[len(b):], x)
		wantBack(t, b, 4, 4, banana, api.OK)
		wantBack(t, b, 7, 4, nil, api.ErrArg)
	}
}

// P11.4

// comesBack holds that a list comes back from what Make answers of it by layer 9's order.
func comesBack(t *testing.T, l []int, alphabet int) {
	t.Helper()
	sa, e := suffix.Array(l, alphabet)
	if e != api.OK {
		t.Fatalf("%d numbers of %d: %v", len(l), alphabet, e)
	}
	b, e := Make(l, sa)
	if e != api.OK {
		t.Fatalf("%d numbers of %d: %v", len(l), alphabet, e)
	}
	got, e := Back(b, max(slices.Index(sa, 0), 0), alphabet)
	if e != api.OK || !slices.Equal(got, l) {
		t.Fatalf("%d numbers of %d: %d numbers, %v", len(l), alphabet, len(got), e)
	}
}

func TestSamplesComeBack(t *testing.T) {
	comesBack(t, nil, 0)
	comesBack(t, []int{}, 5)
	for _, l := range samples() {
		if !endsLeast(l) {
			t.Errorf("%v: no sample", l)
		}
		comesBack(t, l, slices.Max(l)+1)
		comesBack(t, l, 4000)
		comesBack(t, l, api.MaxInts)
	}
}

func TestEveryShortListComesBack(t *testing.T) {
	for _, x := range []struct{ n, bound int }{{1, 5}, {2, 5}, {3, 5}, {4, 5}, {5, 5}, {6, 4}, {7, 4}, {8, 3}, {11, 3}} {
		every(x.n, x.bound, func(l []int) {
			if endsLeast(l) {
				comesBack(t, l, x.bound)
				comesBack(t, l, 500)
			}
		})
	}
}

func TestLongListsComeBack(t *testing.T) {
	for _, n := range []int{1000, 65791, 300000} {
		for _, bound := range []int{1, 2, 3, 256, 512, n, 2000000} {
			comesBack(t, raised(scattered(n, bound, uint64(bound)), 1), bound+1)
			comesBack(t, raised(scattered(n, bound, uint64(n)), 1), api.MaxInts)
		}
		comesBack(t, raised(again([]int{0, 1, 0, 2}, n/4), 1), 4)
		comesBack(t, raised(shuffled(n, 1), 1), n+1)
	}
	comesBack(t, raised(scattered(api.MaxInts-1, 3, 7), 1), 4)
	comesBack(t, falling(api.MaxInts), api.MaxInts)
	comesBack(t, again([]int{8}, api.MaxInts-1, 4), 9)
}

func TestBackHasNoBoundOnItsRow(t *testing.T) {
	const n = api.MaxInts + 1
	// Layer 9 puts no more than MaxInts in order, but of numbers all alike the order is plain.
	l := again([]int{6}, n-1, 2)
	b, e := Make(l, falling(n))
	if e != api.OK {
		t.Fatal(e)
	}
	if got, e := Back(b, n-1, 7); e != api.OK || !slices.Equal(got, l) {
		t.Errorf("%d numbers, %v", len(got), e)
	}
	for _, whole := range []int{0, n / 2, n - 2} {
		if got, e := Back(b, whole, 7); e != api.ErrForm || len(got) != 0 {
			t.Errorf("whole at %d: %d numbers, %v", whole, len(got), e)
		}
	}
	for _, whole := range []int{-1, n} {
		if got, e := Back(b, whole, 7); e != api.ErrArg || len(got) != 0 {
			t.Errorf("whole at %d: %d numbers, %v", whole, len(got), e)
		}
	}
}

func TestBackOfFewNumbersAndOfMany(t *testing.T) {
	held := 0
	for _, l := range samples() {
		b := turnedBy(l, orderOf(l))
		whole := slices.Index(orderOf(l), 0)
		edge := len(l) * (bits.Len(uint(len(l))) + 1)
		if slices.Max(l) >= edge-1 {
			continue
		}
		held++
		if few(b, edge-1) || !few(b, edge) {
			t.Errorf("%d numbers: %d is not where they are few", len(l), edge)
		}
		for _, alphabet := range []int{slices.Max(l) + 1, edge - 1, edge, edge + 1} {
			wantBack(t, b, whole, alphabet, l, api.OK)
			wantBack(t, b, len(l), alphabet, nil, api.ErrArg)
			for other := range b {
				if other != whole {
					wantBack(t, b, other, alphabet, nil, api.ErrForm)
				}
			}
		}
	}
	if held < 10 {
		t.Errorf("%d samples", held)
	}
}

// The chapter's examples.

func TestExamples(t *testing.T) {
	b, e := Make([]int{2, 1, 3, 1, 3, 1, 0}, []int{6, 5, 3, 1, 0, 4, 2})
	if e != api.OK || !slices.Equal(b, []int{1, 3, 3, 2, 0, 1, 1}) {
		t.Errorf("Make: %v, %v", b, e)
	}
	l, e := Back(b, 4, 4)
	if e != api.OK || !slices.Equal(l, []int{2, 1, 3, 1, 3, 1, 0}) {
		t.Errorf("Back: %v, %v", l, e)
	}
}
