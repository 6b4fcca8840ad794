package lcp

import (
	"math"
	"slices"
	"testing"

	"colophon/api"
	"colophon/suffix"
)

// extremes are places of no list.
var extremes = []int{
	-1, -2, -3, -256, -api.MaxInts, math.MinInt32, math.MinInt, math.MinInt + 1,
	api.MaxInts, api.MaxInts + 1, 1 << 24, math.MaxInt32, 1 << 32, 1<<32 + 1, math.MaxInt - 1, math.MaxInt,
}

// banana has the chapter's example: a as 1, b as 2, n as 3.
var banana = []int{2, 1, 3, 1, 3, 1}

// sample is numbers by a name.
type sample struct {
	name string
	t    []int
}

// numbers answers n numbers by a rule.
func numbers(n int, rule func(i int) int) []int {
	l := make([]int, n)
	for i := range l {
		l[i] = rule(i)
	}
	return l
}

// rising answers the numbers below n.
func rising(n int) []int {
	return numbers(n, func(i int) int { return i })
}

// falling answers the numbers below n, the greatest first.
func falling(n int) []int {
	return numbers(n, func(i int) int { return n - 1 - i })
}

// steps answers the numbers below n, each so much behind the one ahead of it, going round.
func steps(n, step int) []int {
	return numbers(n, func(i int) int { return i * step % n })
}

// scattered answers n numbers below bound that look like no rule.
func scattered(n, bound int, seed uint64) []int {
	x := seed
	return numbers(n, func(int) int {
		x = x*6364136223846793005 + 1442695040888963407
		return int((x >> 33) % uint64(bound))
	})
}

// shuffled answers the numbers below n in an order that looks like no rule.
func shuffled(n int, seed uint64) []int {
	l := rising(n)
	for i, x := range scattered(n, math.MaxInt32, seed) {
		k := x % (i + 1)
		l[i], l[k] = l[k], l[i]
	}
	return l
}

// again answers a part said so many times, with what stands behind.
func again(part []int, times int, behind ...int) []int {
	return append(slices.Repeat(part, times), behind...)
}

// letters answers the bytes of s.
func letters(s string) []int {
	return numbers(len(s), func(i int) int { return int(s[i]) })
}

// of answers the numbers that stand at these places among those that can be.
func of(l []int, among ...int) []int {
	return numbers(len(l), func(i int) int { return among[l[i]] })
}

// fibonacci answers numbers in which each beginning comes again, but never thrice in a row.
func fibonacci(steps int) []int {
	a, b := []int{0}, []int{0, 1}
	for range steps {
		a, b = b, slices.Concat(b, a)
	}
	return b
}

// withRoom answers a list like l, with a spare room filled by fill.
func withRoom(l []int, fill int) []int {
	k := make([]int, len(l), len(l)+5)
	copy(k, l)
	spoil(k[len(k):cap(k)], fill)
	return k
}

// spoil lays x everywhere in l, its spare room too.
func spoil(l []int, x int) {
	l = l[:cap(l)]
	for i := range l {
		l[i] = x
	}
}

// small answers lists of few numbers, of all kinds that the chapter tells apart.
func small() []sample {
	return []sample{
		{"nil", nil}, {"empty", []int{}}, {"empty with room", make([]int, 0, 9)}, {"one", []int{3}}, {"one nought", []int{0}}, {"one below nought", []int{-3}}, {"the least one", []int{math.MinInt}}, {"the greatest one", []int{math.MaxInt}},
		{"two alike", []int{2, 2}}, {"two rising", []int{1, 2}}, {"two falling", []int{2, 1}}, {"three alike", []int{1, 1, 1}},
		{"noughts", make([]int, 40)}, {"alike", again([]int{6}, 41)}, {"the least ones", again([]int{math.MinInt}, 33)}, {"the greatest ones", again([]int{math.MaxInt}, 31)},
		{"rising", rising(40)}, {"falling", falling(40)}, {"all unlike", shuffled(40, 3)}, {"unlike, far apart", numbers(40, func(i int) int { return (i - 20) * (math.MaxInt / 20) })},
		{"ab again", again([]int{0, 1}, 20)}, {"ab again and a", again([]int{0, 1}, 20, 0)}, {"ba again", again([]int{1, 0}, 20)}, {"ba again and b", again([]int{1, 0}, 20, 1)},
		{"abb again", again([]int{0, 1, 1}, 14)}, {"aab again, an end", again([]int{-1, -1, 1}, 14, -2)}, {"bba again, an end", again([]int{2, 2, 1}, 14, 3)}, {"abac again", again([]int{0, 1, 0, 2}, 9)}, {"parts in parts", again(again([]int{1, 2, 1, 3}, 3, 0, 4), 5)},
		{"alike, a lesser end", again([]int{1}, 40, 0)}, {"alike, a greater end", again([]int{0}, 40, 1)}, {"a lesser beginning", slices.Concat([]int{0}, again([]int{1}, 40))}, {"a greater beginning", slices.Concat([]int{1}, make([]int, 40))},
		{"the least and the greatest", again([]int{math.MinInt, math.MaxInt, math.MaxInt}, 12)}, {"around nought", again([]int{-1, 0, 1, 0}, 10, math.MinInt)},
		{"documents with ends", slices.Concat(letters("banana"), []int{0}, letters("ananas"), []int{1}, letters("nab"), []int{2})}, {"documents alike", slices.Concat(letters("abab"), []int{0}, letters("abab"), []int{1}, letters("abab"), []int{2})},
		{"mississippi", letters("mississippi")}, {"abracadabra", letters("abracadabra")}, {"banana", banana}, {"fibonacci", fibonacci(8)},
		{"two letters", scattered(150, 2, 1)}, {"three letters", of(scattered(150, 3, 2), math.MinInt, -1, math.MaxInt)}, {"many letters", scattered(150, 256, 3)}, {"great numbers", scattered(150, math.MaxInt32, 4)},
	}
}

// common tells by the chapter's words how many numbers suffixes a and b of l, which are both there, begin with in common.
func common(l []int, a, b int) int {
	n := 0
	for a+n < len(l) && b+n < len(l) && l[a+n] == l[b+n] {
		n++
	}
	return n
}

// arrayBy answers by the chapter's words what Array does of each place of l once.
func arrayBy(l, sa []int) []int {
	return numbers(len(sa), func(i int) int {
		if i == 0 {
			return 0
		}
		return common(l, sa[i-1], sa[i])
	})
}

// rangeBy tells by the chapter's words the least number of l behind the lesser place up to the greater one.
func rangeBy(l []int, a, b int) int {
	if a > b {
		a, b = b, a
	}
	if a < 0 || b >= len(l) || a == b {
		return -1
	}
	least := l[a+1]
	for _, x := range l[a+1 : b+1] {
		if x < least {
			least = x
		}
	}
	return least
}

// orderOf answers the places of l in the order of their suffixes.
func orderOf(l []int) []int {
	sa := rising(len(l))
	slices.SortFunc(sa, func(a, b int) int { return suffix.Least(l, a, b) })
	return sa
}

// swapped answers l with what stands at these two places swapped.
func swapped(l []int, a, b int) []int {
	k := slices.Clone(l)
	k[a], k[b] = k[b], k[a]
	return k
}

// ordersOf answers some orders of the places of l, the suffixes' own one first.
func ordersOf(l []int) [][]int {
	n := len(l)
	sa := orderOf(l)
	back := slices.Clone(sa)
	slices.Reverse(back)
	all := [][]int{sa, back, rising(n), falling(n), shuffled(n, 1), shuffled(n, 2)}
	for _, step := range []int{2, 3, 7, n/2 + 1, n - 2} {
		if isOrder(steps(n, step)) {
			all = append(all, steps(n, step))
		}
	}
	// An order but for one place is none.
	for i := 1; i < n; i += 1 + n/5 {
		all = append(all, swapped(sa, i-1, i), slices.Concat(sa[i:], sa[:i]))
	}
	return all
}

// isOrder tells whether l has each number below its length once.
func isOrder(l []int) bool {
	there := make([]bool, len(l))
	for _, x := range l {
		if x < 0 || x >= len(l) || there[x] {
			return false
		}
		there[x] = true
	}
	return true
}

// every calls f with each list of n numbers below bound.
func every(n, bound int, f func(l []int)) {
	l := make([]int, n)
	for {
		f(l)
		i := 0
		for ; i < n && l[i] == bound-1; i++ {
			l[i] = 0
		}
		if i == n {
			return
		}
		l[i]++
	}
}

// orders answers each order of the numbers below n.
func orders(n int) [][]int {
	var all [][]int
	every(n, max(n, 1), func(l []int) {
		if isOrder(l) {
			all = append(all, slices.Clone(l))
		}
	})
	return all
}

// checkArray holds what Array answers of each place of l once against the chapter's words.
func checkArray(t *testing.T, name string, l, sa []int) {
	t.Helper()
	x, e := Array(l, sa)
	if want := arrayBy(l, sa); e != api.OK || !slices.Equal(x, want) {
		t.Fatalf("%s: %v by %v: %v, %v, not %v", name, l, sa, x, e, want)
	}
}

// refused holds that Array refuses these.
func refused(t *testing.T, l, sa []int) {
	t.Helper()
	if x, e := Array(l, sa); e != api.ErrArg || len(x) != 0 {
		t.Errorf("%d numbers by %v: %v, %v", len(l), sa, x, e)
	}
}

// P10.1

func TestArrayWrittenOut(t *testing.T) {
	least, greatest := math.MinInt, math.MaxInt
	for _, x := range []struct{ t, sa, want []int }{
		{nil, nil, nil}, {nil, []int{}, nil}, {[]int{}, nil, nil}, {[]int{}, []int{}, nil}, {make([]int, 0, 3), make([]int, 0, 4), nil},
		{[]int{0}, []int{0}, []int{0}}, {[]int{7}, []int{0}, []int{0}}, {[]int{-7}, []int{0}, []int{0}}, {[]int{least}, []int{0}, []int{0}}, {[]int{greatest}, []int{0}, []int{0}},
		{[]int{4, 4}, []int{1, 0}, []int{0, 1}}, {[]int{4, 4}, []int{0, 1}, []int{0, 1}}, {[]int{4, 5}, []int{0, 1}, []int{0, 0}}, {[]int{4, 5}, []int{1, 0}, []int{0, 0}}, {[]int{5, 4}, []int{1, 0}, []int{0, 0}}, {[]int{5, 4}, []int{0, 1}, []int{0, 0}},
		{[]int{least, greatest}, []int{0, 1}, []int{0, 0}}, {[]int{least, greatest}, []int{1, 0}, []int{0, 0}}, {[]int{least, least}, []int{1, 0}, []int{0, 1}}, {[]int{greatest, greatest}, []int{0, 1}, []int{0, 1}},
		{[]int{1, 1, 1, 1}, []int{3, 2, 1, 0}, []int{0, 1, 2, 3}}, {[]int{1, 1, 1, 1}, []int{0, 1, 2, 3}, []int{0, 3, 2, 1}}, {[]int{1, 1, 1, 1}, []int{1, 3, 0, 2}, []int{0, 1, 1, 2}}, {[]int{1, 1, 1, 1}, []int{2, 0, 1, 3}, []int{0, 2, 3, 1}},
		{[]int{1, 2, 3, 4}, []int{0, 1, 2, 3}, []int{0, 0, 0, 0}}, {[]int{1, 2, 3, 4}, []int{2, 0, 3, 1}, []int{0, 0, 0, 0}},
		{[]int{0, 1, 0, 1, 0, 1}, []int{4, 2, 0, 5, 3, 1}, []int{0, 2, 4, 0, 1, 3}}, {[]int{0, 1, 0, 1, 0, 1}, []int{0, 4, 2, 1, 5, 3}, []int{0, 2, 2, 0, 1, 1}}, {[]int{0, 1, 0, 1, 0, 1}, []int{0, 1, 2, 3, 4, 5}, []int{0, 0, 0, 0, 0, 0}}, {[]int{0, 1, 0, 1, 0, 1}, []int{0, 2, 4, 1, 3, 5}, []int{0, 4, 2, 0, 3, 1}},
		{[]int{-1, least, -1, least, -1}, []int{4, 0, 2, 3, 1}, []int{0, 1, 3, 0, 2}}, {[]int{greatest, -5, greatest, -5}, []int{1, 3, 0, 2}, []int{0, 1, 0, 2}},
		{banana, []int{0, 1, 2, 3, 4, 5}, []int{0, 0, 0, 0, 0, 0}}, {banana, []int{2, 4, 0, 1, 3, 5}, []int{0, 2, 0, 0, 3, 1}}, {banana, []int{1, 5, 3, 2, 0, 4}, []int{0, 1, 1, 0, 0, 0}}, {banana, []int{3, 1, 5, 4, 2, 0}, []int{0, 3, 1, 0, 2, 0}},
		{letters("mississippi"), []int{10, 7, 4, 1, 0, 9, 8, 6, 3, 5, 2}, []int{0, 1, 1, 4, 0, 0, 1, 0, 2, 1, 3}}, {letters("abracadabra"), []int{10, 7, 0, 3, 5, 8, 1, 4, 6, 9, 2}, []int{0, 1, 4, 1, 1, 0, 3, 0, 0, 0, 2}},
	} {
		if l, e := Array(x.t, x.sa); e != api.OK || !slices.Equal(l, x.want) {
			t.Errorf("%v by %v: %v, %v, not %v", x.t, x.sa, l, e, x.want)
		}
	}
}

func TestArrayOfSmallLists(t *testing.T) {
	for _, s := range small() {
		for _, sa := range ordersOf(s.t) {
			checkArray(t, s.name, s.t, sa)
		}
	}
}

func TestArrayOfEveryShortListInEveryOrder(t *testing.T) {
	for _, x := range []struct{ n, bound int }{{0, 1}, {1, 2}, {2, 3}, {3, 3}, {4, 3}, {5, 3}, {6, 2}} {
		all := orders(x.n)
		every(x.n, x.bound, func(l []int) {
			for _, sa := range all {
				checkArray(t, "short", l, sa)
				checkArray(t, "short, of extremes", of(l, math.MinInt, math.MaxInt, 0), sa)
			}
		})
	}
}

func TestArrayOfLongerListsInOrder(t *testing.T) {
	for _, x := range []struct{ n, bound int }{{6, 3}, {7, 3}, {8, 2}, {9, 2}, {10, 2}, {11, 2}} {
		every(x.n, x.bound, func(l []int) { checkArray(t, "in order", l, orderOf(l)) })
	}
}

func TestArrayOfMixedLists(t *testing.T) {
	for seed := range 200 {
		n, bound := 1+seed*7%90, 1+seed%9
		l := scattered(n, bound, uint64(seed))
		if seed%3 == 0 { // parts that come again far behind
			l = slices.Concat(l, l[:n/2], l, l[n/3:])
		}
		for _, sa := range ordersOf(l) {
			checkArray(t, "mixed", l, sa)
		}
	}
}

// checkLong holds what Array answers of many numbers against a rule of what it is at i.
func checkLong(t *testing.T, name string, l, sa []int, rule func(i int) int) {
	t.Helper()
	x, e := Array(l, sa)
	if e != api.OK || len(x) != len(l) || x[0] != 0 {
		t.Fatalf("%s: %d numbers, %v", name, len(x), e)
	}
	for i := 1; i < len(x); i++ {
		if x[i] != rule(i) {
			t.Fatalf("%s: %d: %d, not %d", name, i, x[i], rule(i))
		}
	}
}

func TestArrayOfLongLists(t *testing.T) {
	// Of as many as these, suffix against suffix would be compared for ever.
	const many = api.MaxInts
	alike := make([]int, many)
	for _, sa := range [][]int{falling(many), shuffled(many, 4)} {
		checkLong(t, "alike", alike, sa, func(i int) int { return many - max(sa[i-1], sa[i]) })
	}
	n := 1 << 19
	for _, sa := range [][]int{rising(n), falling(n), shuffled(n, uint64(n))} {
		checkLong(t, "alike", again([]int{-4}, n), sa, func(i int) int { return n - max(sa[i-1], sa[i]) })
		checkLong(t, "unlike", falling(n), sa, func(int) int { return 0 })
	}
	l, sa := again([]int{math.MaxInt, math.MinInt, -1}, n/3+1)[:n], shuffled(n, 5)
	checkLong(t, "a part over and over", l, sa, func(i int) int {
		if (sa[i]-sa[i-1])%3 != 0 {
			return 0
		}
		return n - max(sa[i-1], sa[i])
	})
}

func TestArrayHasNoBoundOfItsOwn(t *testing.T) {
	const n = api.MaxInts + 1
	alike := make([]int, n)
	checkLong(t, "alike, in order", alike, falling(n), func(i int) int { return i })
	checkLong(t, "alike, rising", alike, rising(n), func(i int) int { return n - i })
	l := scattered(n, math.MaxInt32, 9)
	sa := steps(n, 2) // as n is odd, each place once
	checkLong(t, "scattered", l, sa, func(i int) int { return common(l, sa[i-1], sa[i]) })
	refused(t, alike, append(rising(n-1), n))
	refused(t, alike, append(rising(n-1), 0))
	refused(t, alike, rising(n-1))
	refused(t, alike, rising(n+1))
}

// turnedOf answers where each place stands in sa.
func turnedOf(sa []int) []int {
	at := make([]int, len(sa))
	for i, p := range sa {
		at[p] = i
	}
	return at
}

func TestArrayTellsWhatIsInOrder(t *testing.T) {
	check := func(l, sa []int) {
		at := turnedOf(sa)
		if got, want := inOrder(l, sa, at), slices.Equal(sa, orderOf(l)); got != want {
			t.Fatalf("%v by %v: %v", l, sa, got)
		}
		// Of more than MaxInts numbers these are answered in any order.
		if x, want := neighbours(l, sa, at, false), arrayBy(l, sa); !slices.Equal(x, want) {
			t.Fatalf("%v by %v: %v, not %v", l, sa, x, want)
		}
	}
	for _, s := range small() {
		for _, sa := range ordersOf(s.t) {
			check(s.t, sa)
		}
	}
	for _, x := range []struct{ n, bound int }{{0, 1}, {1, 2}, {2, 3}, {3, 3}, {4, 3}, {5, 3}, {6, 2}} {
		all := orders(x.n)
		every(x.n, x.bound, func(l []int) {
			for _, sa := range all {
				check(l, sa)
			}
		})
	}
}

func TestArrayOfShortListsOutsideEachOrder(t *testing.T) {
	for n := range 6 {
		l := again([]int{8}, n)
		every(n, n+3, func(places []int) {
			sa := numbers(n, func(i int) int { return places[i] - 1 }) // from -1 to one more than the length
			if isOrder(sa) {
				checkArray(t, "each place once", l, sa)
			} else {
				refused(t, l, sa)
			}
		})
	}
}

func TestArrayRefusesOtherPlaces(t *testing.T) {
	for _, n := range []int{1, 2, 3, 10, 500} {
		for _, l := range [][]int{rising(n), make([]int, n), again([]int{math.MaxInt}, n)} {
			for _, sa := range ordersOf(l) {
				for _, at := range []int{0, n / 2, n - 1} {
					for _, x := range append([]int{n, n + 1, -n, (sa[at] + 1) % n, (sa[at] + n - 1) % n}, extremes...) {
						wrong := slices.Clone(sa)
						wrong[at] = x
						if x != sa[at] {
							refused(t, l, wrong)
						}
					}
				}
			}
		}
	}
}

func TestArrayRefusesOtherLengths(t *testing.T) {
	for n := range 12 {
		for m := range 12 {
			if n != m {
				refused(t, make([]int, n), rising(m))
				refused(t, rising(n), falling(m))
			}
		}
	}
	refused(t, nil, []int{0})
	refused(t, []int{}, []int{0})
	refused(t, []int{0}, nil)
	refused(t, []int{0}, []int{})
	refused(t, banana, []int{5, 3, 1, 0, 4})
	refused(t, banana, []int{5, 3, 1, 0, 4, 2, 6})
	refused(t, banana, []int{5, 3, 1, 0, 4, 2, 2})
	refused(t, banana, []int{5, 3, 1, 0, 4, 4})
	refused(t, banana, []int{0, 0, 0, 0, 0, 0})
	refused(t, banana, []int{1, 2, 3, 4, 5, 6})
	// What stands in the spare room is no place of the list.
	refused(t, banana, rising(6)[:5])
	refused(t, banana[:5], rising(6))
	checkArray(t, "a piece", banana[:5], rising(9)[:5])
	checkArray(t, "a piece from within", banana[2:5], rising(9)[:3])
}

func TestArrayLeavesItsLists(t *testing.T) {
	for _, x := range []struct{ t, sa []int }{
		{nil, nil}, {[]int{4}, []int{0}}, {banana, []int{5, 3, 1, 0, 4, 2}}, {banana, []int{0, 1, 2, 3, 4, 5}}, {banana, []int{2, 4, 0, 1, 3, 5}}, {make([]int, 50), shuffled(50, 1)}, {again([]int{1, 2}, 25), rising(50)},
		{banana, []int{0, 0, 1, 2, 3, 4}}, {banana, []int{0, 1}}, {banana, []int{0, 1, 2, 3, 4, -1}}, {[]int{}, []int{0}},
	} {
		l, sa := withRoom(x.t, 77), withRoom(x.sa, 78)
		wholeT, wholeSa := slices.Clone(l[:cap(l)]), slices.Clone(sa[:cap(sa)])
		held := func() bool { return slices.Equal(l[:cap(l)], wholeT) && slices.Equal(sa[:cap(sa)], wholeSa) }
		got, e := Array(l, sa)
		if !held() {
			t.Errorf("%v by %v: changed", x.t, x.sa)
		}
		kept := slices.Clone(got)
		spoil(l, 3)
		spoil(sa, 0)
		if !slices.Equal(got, kept) {
			t.Errorf("%v by %v: what is answered hangs on the lists", x.t, x.sa)
		}
		copy(l[:cap(l)], wholeT)
		copy(sa[:cap(sa)], wholeSa)
		spoil(got, -9)
		if !held() {
			t.Errorf("%v by %v: the lists hang on what is answered", x.t, x.sa)
		}
		once, f := Array(l, sa)
		if f != e || !slices.Equal(once, kept) {
			t.Errorf("%v by %v: once more: %v, %v, not %v, %v", x.t, x.sa, once, f, kept, e)
		}
	}
}

func TestArrayOfOneListTwice(t *testing.T) {
	for n := range 9 {
		// One list as both: its numbers are its places.
		l := withRoom(shuffled(n, 4), n)
		checkArray(t, "as both", l, l)
	}
}

// P10.2

func TestCommonWrittenOut(t *testing.T) {
	least, greatest := math.MinInt, math.MaxInt
	for _, x := range []struct {
		t          []int
		a, b, want int
	}{
		{banana, 1, 3, 3}, {banana, 3, 1, 3}, {banana, 1, 5, 1}, {banana, 5, 1, 1}, {banana, 2, 4, 2}, {banana, 4, 2, 2}, {banana, 3, 5, 1}, {banana, 0, 1, 0}, {banana, 1, 2, 0}, {banana, 0, 5, 0},
		{banana, 0, 0, 6}, {banana, 1, 1, 5}, {banana, 5, 5, 1}, {banana, 6, 6, 0}, {banana, 7, 7, 0}, {banana, -1, -1, 0},
		{banana, -1, 0, 0}, {banana, 0, -1, 0}, {banana, 6, 0, 0}, {banana, 0, 6, 0}, {banana, 5, 6, 0}, {banana, 6, 5, 0}, {banana, 1, 7, 0}, {banana, 7, 1, 0}, {banana, -1, 6, 0}, {banana, 6, -1, 0},
		{nil, 0, 0, 0}, {nil, 0, 1, 0}, {nil, -1, 0, 0}, {[]int{}, 0, 0, 0}, {[]int{}, 1, 1, 0}, {[]int{4}, 0, 0, 1}, {[]int{4}, 0, 1, 0}, {[]int{4}, 1, 0, 0}, {[]int{4}, 1, 1, 0}, {[]int{4}, -1, 0, 0},
		{[]int{1, 1}, 0, 1, 1}, {[]int{1, 1}, 1, 0, 1}, {[]int{1, 2}, 0, 1, 0}, {[]int{2, 1}, 0, 1, 0}, {[]int{1, 2, 1, 3}, 0, 2, 1}, {[]int{1, 2, 1, 3}, 2, 0, 1},
		{[]int{least, greatest}, 0, 1, 0}, {[]int{least, least}, 0, 1, 1}, {[]int{greatest, greatest, least, greatest, greatest}, 3, 0, 2}, {[]int{-1, 0, -1, 0, 1}, 0, 2, 2}, {[]int{-1, 1}, 0, 1, 0}, {[]int{1 << 32, 0}, 0, 1, 0},
	} {
		if y := Common(x.t, x.a, x.b); y != x.want {
			t.Errorf("%v, %d and %d: %d, not %d", x.t, x.a, x.b, y, x.want)
		}
	}
}

// checkCommon holds Common of all places, and of those around, against the chapter's words.
func checkCommon(t *testing.T, l []int) {
	t.Helper()
	for a := -2; a < len(l)+3; a++ {
		for b := -2; b < len(l)+3; b++ {
			want := 0
			if a >= 0 && b >= 0 && a < len(l) && b < len(l) {
				want = common(l, a, b)
			}
			if x := Common(l, a, b); x != want {
				t.Fatalf("%v, %d and %d: %d, not %d", l, a, b, x, want)
			}
		}
	}
}

func TestCommonOfEachTwoPlaces(t *testing.T) {
	for _, s := range small() {
		checkCommon(t, s.t)
	}
	for _, x := range []struct{ n, bound int }{{0, 1}, {1, 2}, {2, 4}, {3, 4}, {4, 4}, {5, 3}, {6, 3}, {9, 2}} {
		every(x.n, x.bound, func(l []int) { checkCommon(t, l) })
	}
}

func TestCommonOfOneSuffixWithItself(t *testing.T) {
	for _, l := range [][]int{{5}, banana, rising(100), make([]int, 100), scattered(1000, 3, 1)} {
		for p := range l {
			if x := Common(l, p, p); x != len(l)-p {
				t.Errorf("%d of %d: %d", p, len(l), x)
			}
		}
	}
}

func TestCommonOfBeginnings(t *testing.T) {
	// A suffix of these is the beginning of each that stands some parts ahead of it.
	for _, part := range [][]int{{7}, {1, 2}, {2, -1, -1}, {0, 1, 0, 2}} {
		l := again(part, 20)
		for a := range l {
			for b := a + len(part); b < len(l); b += len(part) {
				if Common(l, a, b) != len(l)-b || Common(l, b, a) != len(l)-b {
					t.Errorf("%v, %d and %d", l, a, b)
				}
			}
		}
	}
}

func TestCommonOfNoPlace(t *testing.T) {
	for _, l := range [][]int{nil, {}, {4}, banana, make([]int, 100), scattered(1000, 3, 1)} {
		for _, x := range append([]int{len(l), len(l) + 1, -len(l) - 1}, extremes...) {
			for _, y := range append([]int{0, len(l) / 2, len(l) - 1, len(l)}, extremes...) {
				if a, b := Common(l, x, y), Common(l, y, x); a != 0 || b != 0 {
					t.Errorf("%d of %d, %d: %d, %d", x, len(l), y, a, b)
				}
			}
		}
	}
}

func TestCommonOfManyNumbers(t *testing.T) {
	const n = api.MaxInts + 1
	l := make([]int, n)
	if a, b, c := Common(l, 0, 1), Common(l, n-1, 0), Common(l, 0, 0); a != n-1 || b != 1 || c != n {
		t.Errorf("alike: %d, %d, %d", a, b, c)
	}
	l[n-1] = 1
	if a, b, c := Common(l, 0, 1), Common(l, n-1, 0), Common(l, 5, n-2); a != n-2 || b != 0 || c != 1 {
		t.Errorf("another one last: %d, %d, %d", a, b, c)
	}
}

func TestCommonLeavesItsList(t *testing.T) {
	l := withRoom(banana, 77)
	whole := slices.Clone(l[:cap(l)])
	checkCommon(t, l)
	if !slices.Equal(l[:cap(l)], whole) {
		t.Error("changed")
	}
	// The spare room is none of the list's: whatever stands in it, the answers stay.
	for _, x := range []int{math.MinInt, 1, 3, math.MaxInt} {
		spoil(l[len(l):], x)
		checkCommon(t, l)
	}
}

// P10.3

func TestRangeWrittenOut(t *testing.T) {
	l := []int{0, 1, 3, 0, 0, 2}
	least, greatest := math.MinInt, math.MaxInt
	for _, x := range []struct {
		l          []int
		a, b, want int
	}{
		{l, 0, 1, 1}, {l, 1, 0, 1}, {l, 0, 2, 1}, {l, 2, 0, 1}, {l, 1, 2, 3}, {l, 2, 1, 3}, {l, 2, 3, 0}, {l, 1, 3, 0}, {l, 3, 1, 0}, {l, 4, 5, 2}, {l, 5, 4, 2}, {l, 3, 5, 0}, {l, 0, 5, 0}, {l, 5, 0, 0},
		{l, 0, 0, -1}, {l, 2, 2, -1}, {l, 5, 5, -1}, {l, 6, 6, -1}, {l, -1, -1, -1}, {l, -1, 0, -1}, {l, 0, -1, -1}, {l, -1, 5, -1}, {l, 5, -1, -1}, {l, 0, 6, -1}, {l, 6, 0, -1}, {l, 5, 6, -1}, {l, 6, 5, -1}, {l, -1, 6, -1}, {l, 6, -1, -1}, {l, 2, 9, -1}, {l, 9, 2, -1},
		{nil, 0, 0, -1}, {nil, 0, 1, -1}, {nil, -1, 0, -1}, {[]int{}, 0, 0, -1}, {[]int{}, 1, 0, -1}, {[]int{4}, 0, 0, -1}, {[]int{4}, 0, 1, -1}, {[]int{4}, 1, 0, -1}, {[]int{4}, -1, 0, -1},
		{[]int{4, 7}, 0, 1, 7}, {[]int{4, 7}, 1, 0, 7}, {[]int{4, 7, 5}, 0, 2, 5}, {[]int{4, 5, 7}, 2, 0, 5}, {[]int{9, 9, 9}, 0, 2, 9},
		{[]int{least, greatest}, 0, 1, greatest}, {[]int{greatest, least}, 0, 1, least}, {[]int{0, -5, greatest, -7}, 0, 3, -7}, {[]int{0, -5, greatest, -7}, 1, 2, greatest}, {[]int{0, -1}, 1, 0, -1}, {[]int{0, greatest, least, greatest}, 3, 1, least},
	} {
		if y := Range(x.l, x.a, x.b); y != x.want {
			t.Errorf("%v, %d and %d: %d, not %d", x.l, x.a, x.b, y, x.want)
		}
	}
}

// checkRange holds Range of all places, and of those around, against the chapter's words.
func checkRange(t *testing.T, l []int) {
	t.Helper()
	for a := -2; a < len(l)+3; a++ {
		for b := -2; b < len(l)+3; b++ {
			if x, want := Range(l, a, b), rangeBy(l, a, b); x != want {
				t.Fatalf("%v, %d and %d: %d, not %d", l, a, b, x, want)
			}
		}
	}
}

func TestRangeOfEachTwoPlaces(t *testing.T) {
	for _, s := range small() {
		if len(s.t) < 100 {
			checkRange(t, s.t)
		}
	}
	for _, x := range []struct{ n, bound int }{{0, 1}, {1, 2}, {2, 4}, {3, 4}, {4, 4}, {5, 3}, {6, 3}, {9, 2}} {
		every(x.n, x.bound, func(l []int) { checkRange(t, l) })
	}
	for _, n := range []int{16, 17, 31, 32, 33, 63, 65} {
		checkRange(t, shuffled(n, uint64(n)))
		checkRange(t, scattered(n, 1<<20, uint64(n)))
	}
}

func TestRangeOfNoPlace(t *testing.T) {
	for _, l := range [][]int{nil, {}, {4}, {0, 1, 3, 0, 0, 2}, make([]int, 100), again([]int{-4}, 50), scattered(1000, 3, 1)} {
		for _, x := range append([]int{len(l), len(l) + 1, -len(l) - 1}, extremes...) {
			for _, y := range append([]int{0, len(l) / 2, len(l) - 1, len(l)}, extremes...) {
				if a, b := Range(l, x, y), Range(l, y, x); a != -1 || b != -1 {
					t.Errorf("%d of %d, %d: %d, %d", x, len(l), y, a, b)
				}
			}
		}
	}
}

func TestRangeOfManyNumbers(t *testing.T) {
	const n = api.MaxInts + 1
	l := falling(n)
	for _, p := range []int{1, 2, 3, n / 2, n - 2, n - 1} {
		if a, b := Range(l, 0, p), Range(l, p, p-1); a != n-1-p || b != n-1-p {
			t.Errorf("%d: %d, %d", p, a, b)
		}
	}
}

func TestRangeIsWhatSuffixesHaveInCommon(t *testing.T) {
	for _, s := range small() {
		sa := orderOf(s.t)
		l, e := Array(s.t, sa)
		if e != api.OK {
			t.Fatalf("%s: %v", s.name, e)
		}
		for a := range sa {
			for b := range sa {
				if x := Range(l, a, b); a != b && x != Common(s.t, sa[a], sa[b]) {
					t.Fatalf("%s, %d and %d: %d, not %d", s.name, a, b, x, Common(s.t, sa[a], sa[b]))
				}
			}
		}
	}
}

func TestRangeLeavesItsList(t *testing.T) {
	l := withRoom([]int{0, 1, 3, 0, 0, 2}, 77)
	whole := slices.Clone(l[:cap(l)])
	checkRange(t, l)
	if !slices.Equal(l[:cap(l)], whole) {
		t.Error("changed")
	}
	// The spare room is none of the list's: whatever stands in it, the answers stay.
	for _, x := range []int{math.MinInt, -1, math.MaxInt} {
		spoil(l[len(l):], x)
		checkRange(t, l)
	}
}

// The chapter's examples.

func TestExamples(t *testing.T) {
	l, e := Array([]int{2, 1, 3, 1, 3, 1}, []int{5, 3, 1, 0, 4, 2})
	if e != api.OK || !slices.Equal(l, []int{0, 1, 3, 0, 0, 2}) {
		t.Errorf("Array: %v, %v", l, e)
	}
	if x := Range(l, 0, 2); x != 1 {
		t.Errorf("Range: %d", x)
	}
}
