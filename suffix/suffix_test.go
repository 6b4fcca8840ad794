package suffix

import (
	"math"
	"slices"
	"sort"
	"strconv"
	"testing"

	"colophon/api"
)

// extremes are numbers of no alphabet and places of no list.
var extremes = []int{
	-1, -2, -3, -256, -api.MaxInts, math.MinInt32, math.MinInt, math.MinInt + 1,
	api.MaxInts, api.MaxInts + 1, 1 << 24, math.MaxInt32, 1 << 32, 1<<32 + 1, math.MaxInt - 1, math.MaxInt,
}

// sample is numbers below alphabet, by a name.
type sample struct {
	name     string
	t        []int
	alphabet int
}

// numbers answers n numbers by a rule.
func numbers(n int, rule func(i int) int) []int {
	l := make([]int, n)
	for i := range l {
		l[i] = rule(i)
	}
	return l
}

// scattered answers n numbers below bound that look like no rule.
func scattered(n, bound int, seed uint64) []int {
	x := seed
	return numbers(n, func(int) int {
		x = x*6364136223846793005 + 1442695040888963407
		return int((x >> 33) % uint64(bound))
	})
}

// again answers a part said so many times, with what stands behind.
func again(part []int, times int, behind ...int) []int {
	return append(slices.Repeat(part, times), behind...)
}

// letters answers the bytes of s.
func letters(s string) []int {
	return numbers(len(s), func(i int) int { return int(s[i]) })
}

// fibonacci answers numbers in which each beginning comes again, but never thrice in a row.
func fibonacci(steps int) []int {
	a, b := []int{0}, []int{0, 1}
	for range steps {
		a, b = b, slices.Concat(b, a)
	}
	return b
}

// turns answers the number of ones of each place, even or odd.
func turns(n int) []int {
	return numbers(n, func(i int) int {
		odd := 0
		for ; i > 0; i &= i - 1 {
			odd ^= 1
		}
		return odd
	})
}

// withRoom answers a list like l, with a spare room filled by fill.
func withRoom(l []int, fill int) []int {
	k := make([]int, len(l), len(l)+5)
	copy(k, l)
	spoil(k[len(k):cap(k)], fill)
	return k
}

// spoil lays x everywhere in l, its spare room too.
func spoil(l []int, x int) {
	l = l[:cap(l)]
	for i := range l {
		l[i] = x
	}
}

// small answers lists of few numbers, of all kinds that the chapter tells apart.
func small() []sample {
	rising := func(i int) int { return i }
	falling := func(i int) int { return 39 - i }
	return []sample{
		{"nil", nil, 5}, {"empty", []int{}, 5}, {"empty with room", make([]int, 0, 9), 5},
		{"one number", []int{3}, 5}, {"one nought", []int{0}, 1},
		{"two alike", []int{2, 2}, 3}, {"two noughts", []int{0, 0}, 1}, {"two rising", []int{1, 2}, 3}, {"two falling", []int{2, 1}, 3},
		{"three alike", []int{1, 1, 1}, 2}, {"noughts", make([]int, 40), 1}, {"alike", again([]int{6}, 41), 7}, {"alike of a great alphabet", again([]int{6}, 41), 5000},
		{"rising", numbers(40, rising), 40}, {"falling", numbers(40, falling), 40},
		{"rising by twos", numbers(40, func(i int) int { return i / 2 }), 20}, {"falling by twos", numbers(40, func(i int) int { return 20 - i/2 }), 21},
		{"rising, then falling", slices.Concat(numbers(40, rising), numbers(40, falling)), 40}, {"falling, then rising", slices.Concat(numbers(40, falling), numbers(40, rising)), 40},
		{"ab again", again([]int{0, 1}, 20), 2}, {"ab again and a", again([]int{0, 1}, 20, 0), 2}, {"ba again", again([]int{1, 0}, 20), 2}, {"ba again and b", again([]int{1, 0}, 20, 1), 2},
		{"ab again, a lesser end", again([]int{1, 2}, 20, 0), 3}, {"ab again, a greater end", again([]int{1, 2}, 20, 3), 4}, {"ba again, a lesser end", again([]int{2, 1}, 20, 0), 3}, {"ba again, a greater end", again([]int{2, 1}, 20, 3), 4},
		{"abb again", again([]int{0, 1, 1}, 14), 2}, {"aab again", again([]int{0, 0, 1}, 14), 2}, {"bba again, an end", again([]int{2, 2, 1}, 14, 0), 3}, {"abac again", again([]int{0, 1, 0, 2}, 9), 3}, {"acab again and a", again([]int{0, 2, 0, 1}, 9, 0), 3},
		{"parts in parts", again(again([]int{1, 2, 1, 3}, 3, 0, 4), 5), 5}, {"parts in parts, an end", again(again([]int{2, 3, 2, 4}, 3, 1, 5), 5, 0), 6},
		{"alike, a lesser end", again([]int{1}, 40, 0), 2}, {"alike, a greater end", again([]int{0}, 40, 1), 2}, {"a lesser beginning", slices.Concat([]int{0}, again([]int{1}, 40)), 2}, {"a greater beginning", slices.Concat([]int{1}, make([]int, 40)), 2},
		{"documents with ends", slices.Concat(letters("banana"), []int{0}, letters("ananas"), []int{1}, letters("nab"), []int{2}), 256}, {"documents alike", slices.Concat(letters("abab"), []int{0}, letters("abab"), []int{1}, letters("abab"), []int{2}), 256},
		{"mississippi", letters("mississippi"), 128}, {"abracadabra", letters("abracadabra"), 128}, {"banana", letters("banana"), 128},
		{"fibonacci", fibonacci(9), 2}, {"turns", turns(256), 2},
		{"two letters", scattered(300, 2, 1), 2}, {"three letters", scattered(300, 3, 2), 3}, {"many letters", scattered(300, 256, 3), 256}, {"a great alphabet", scattered(300, api.MaxInts, 4), api.MaxInts},
		{"the alphabet as long as the list", scattered(200, 200, 5), 200}, {"the alphabet one less", scattered(200, 199, 6), 199}, {"the alphabet one more", scattered(200, 201, 7), 201},
		{"ends of the greatest alphabet", []int{api.MaxInts - 1, 0, api.MaxInts - 1, api.MaxInts - 1, 0, 0, api.MaxInts - 2}, api.MaxInts},
	}
}

// less tells by the chapter's words whether suffix a of t is less than suffix b.
func less(t []int, a, b int) bool {
	for a < len(t) && b < len(t) {
		if t[a] != t[b] {
			return t[a] < t[b]
		}
		a, b = a+1, b+1
	}
	// The one that ends is the beginning of the other.
	return a == len(t) && b < len(t)
}

// orderOf answers all places of t in the order of the chapter's words.
func orderOf(t []int) []int {
	sa := numbers(len(t), func(i int) int { return i })
	sort.Slice(sa, func(i, k int) bool { return less(t, sa[i], sa[k]) })
	return sa
}

// arrayOf answers what Array does, which must be OK.
func arrayOf(t *testing.T, s sample) []int {
	t.Helper()
	sa, e := Array(s.t, s.alphabet)
	if e != api.OK {
		t.Fatalf("%s: %v", s.name, e)
	}
	return sa
}

// checkOrder holds an array of many numbers against the chapter's words: of neighbours the first numbers rise, or are alike and what is behind them rises.
func checkOrder(t *testing.T, name string, l, sa []int) {
	t.Helper()
	if len(sa) != len(l) {
		t.Fatalf("%s: %d places of %d", name, len(sa), len(l))
	}
	at := slices.Repeat([]int{-1}, len(l)+1)
	for i, p := range sa {
		if p < 0 || p >= len(l) || at[p] != -1 {
			t.Fatalf("%s: place %d: %d", name, i, p)
		}
		at[p] = i
	}
	for i := 1; i < len(sa); i++ {
		a, b := sa[i-1], sa[i]
		if l[a] > l[b] || l[a] == l[b] && at[a+1] >= at[b+1] {
			t.Fatalf("%s: places %d and %d: %d, %d", name, i-1, i, a, b)
		}
	}
}

// refused holds that Array refuses these.
func refused(t *testing.T, name string, l []int, alphabet int) {
	t.Helper()
	if sa, e := Array(l, alphabet); e != api.ErrArg || len(sa) != 0 {
		t.Errorf("%s, alphabet %d: %v, %v", name, alphabet, sa, e)
	}
}

// every calls f with each list of n numbers below bound.
func every(n, bound int, f func(l []int)) {
	l := make([]int, n)
	for {
		f(l)
		i := 0
		for ; i < n && l[i] == bound-1; i++ {
			l[i] = 0
		}
		if i == n {
			return
		}
		l[i]++
	}
}

// orders calls f with each order of the numbers below n.
func orders(n int, f func(l []int)) {
	every(n, max(n, 1), func(l []int) {
		if isOrder(l) {
			f(l)
		}
	})
}

// isOrder tells whether l has each number below its length once.
func isOrder(l []int) bool {
	for x := range l {
		if !slices.Contains(l, x) {
			return false
		}
	}
	return true
}

// P9.1

func TestArrayWrittenOut(t *testing.T) {
	for _, x := range []struct {
		t        []int
		alphabet int
		sa       []int
	}{
		{nil, 0, nil}, {[]int{}, 0, nil}, {nil, 1, nil}, {[]int{}, api.MaxInts, nil},
		{[]int{0}, 1, []int{0}}, {[]int{5}, 6, []int{0}}, {[]int{5}, api.MaxInts, []int{0}},
		{[]int{0, 0}, 1, []int{1, 0}}, {[]int{4, 4}, 5, []int{1, 0}}, {[]int{0, 1}, 2, []int{0, 1}}, {[]int{1, 0}, 2, []int{1, 0}}, {[]int{3, 7}, 100, []int{0, 1}}, {[]int{7, 3}, 100, []int{1, 0}},
		{[]int{2, 2, 2, 2, 2}, 3, []int{4, 3, 2, 1, 0}}, {[]int{0, 1, 2, 3, 4}, 5, []int{0, 1, 2, 3, 4}}, {[]int{4, 3, 2, 1, 0}, 5, []int{4, 3, 2, 1, 0}},
		{[]int{0, 1, 0, 1, 0, 1}, 2, []int{4, 2, 0, 5, 3, 1}}, {[]int{0, 1, 0, 1, 0}, 2, []int{4, 2, 0, 3, 1}}, {[]int{1, 2, 1, 2, 0}, 3, []int{4, 2, 0, 3, 1}}, {[]int{0, 1, 0, 1, 2}, 3, []int{0, 2, 1, 3, 4}}, {[]int{1, 0, 1, 0, 1}, 2, []int{3, 1, 4, 2, 0}},
		{[]int{2, 1, 2, 1, 0}, 3, []int{4, 3, 1, 2, 0}}, {[]int{1, 1, 0}, 2, []int{2, 1, 0}}, {[]int{0, 0, 1}, 2, []int{0, 1, 2}}, {[]int{1, 0, 0}, 2, []int{2, 1, 0}}, {[]int{0, 1, 1}, 2, []int{0, 2, 1}},
		{letters("mississippi"), 256, []int{10, 7, 4, 1, 0, 9, 8, 6, 3, 5, 2}}, {letters("abracadabra"), 256, []int{10, 7, 0, 3, 5, 8, 1, 4, 6, 9, 2}},
	} {
		if sa, e := Array(x.t, x.alphabet); e != api.OK || !slices.Equal(sa, x.sa) {
			t.Errorf("%v: %v, %v, not %v", x.t, sa, e, x.sa)
		}
	}
}

func TestArrayOfSmallLists(t *testing.T) {
	for _, s := range small() {
		if sa, want := arrayOf(t, s), orderOf(s.t); !slices.Equal(sa, want) {
			t.Errorf("%s: %v, not %v", s.name, sa, want)
		}
	}
}

func TestArrayOfEveryShortList(t *testing.T) {
	// The alphabets that are greater than the lists, as great and smaller.
	for _, x := range []struct{ n, bound int }{{0, 1}, {1, 1}, {1, 5}, {2, 5}, {3, 5}, {4, 5}, {5, 5}, {6, 4}, {7, 3}, {8, 3}, {9, 2}, {10, 2}, {11, 2}, {12, 2}, {13, 2}} {
		every(x.n, x.bound, func(l []int) {
			want := orderOf(l)
			for _, alphabet := range []int{x.bound, x.bound + 20} {
				if sa, e := Array(l, alphabet); e != api.OK || !slices.Equal(sa, want) {
					t.Fatalf("%v, alphabet %d: %v, %v, not %v", l, alphabet, sa, e, want)
				}
			}
		})
	}
}

func TestArrayOfMixedLists(t *testing.T) {
	for seed := range 400 {
		n, bound := 1+seed*7%120, 1+seed%9
		l := scattered(n, bound, uint64(seed))
		if seed%3 == 0 { // parts that come again far behind
			l = slices.Concat(l, l[:n/2], l, l[n/3:])
		}
		want := orderOf(l)
		for _, alphabet := range []int{bound, bound + 1, 1000} {
			if sa, e := Array(l, alphabet); e != api.OK || !slices.Equal(sa, want) {
				t.Fatalf("%v, alphabet %d: %v, %v, not %v", l, alphabet, sa, e, want)
			}
		}
	}
}

func TestArrayHangsOnOrderAlone(t *testing.T) {
	for _, s := range small() {
		if s.alphabet > 1000 {
			continue
		}
		want := arrayOf(t, s)
		wide := numbers(len(s.t), func(i int) int { return s.t[i]*4000 + 17 })
		for _, alphabet := range []int{s.alphabet * 4000, api.MaxInts} {
			if sa, e := Array(wide, alphabet); e != api.OK || !slices.Equal(sa, want) {
				t.Errorf("%s, alphabet %d: %v, %v, not %v", s.name, alphabet, sa, e, want)
			}
		}
	}
}

func TestArrayAlphabet(t *testing.T) {
	for _, l := range [][]int{nil, {}, make([]int, 0, 3)} {
		for _, alphabet := range []int{0, 1, 2, 256, api.MaxInts - 1, api.MaxInts} {
			if sa, e := Array(l, alphabet); e != api.OK || len(sa) != 0 {
				t.Errorf("no numbers, alphabet %d: %v, %v", alphabet, sa, e)
			}
		}
	}
	for _, alphabet := range []int{1, 2, 256, api.MaxInts - 1, api.MaxInts} {
		if sa, e := Array([]int{0, 0, 0}, alphabet); e != api.OK || !slices.Equal(sa, []int{2, 1, 0}) {
			t.Errorf("noughts, alphabet %d: %v, %v", alphabet, sa, e)
		}
	}
	for _, alphabet := range extremes {
		if alphabet == api.MaxInts {
			continue
		}
		refused(t, "nil", nil, alphabet)
		refused(t, "no numbers", []int{}, alphabet)
		refused(t, "a nought", []int{0}, alphabet)
		refused(t, "its greatest number", []int{0, alphabet - 1}, alphabet)
		refused(t, "numbers", []int{0, 1, 2}, alphabet)
	}
	refused(t, "a nought", []int{0}, 0)
	refused(t, "-1", []int{-1}, 0)
	refused(t, "two noughts", []int{0, 0}, 0)
	refused(t, "one", []int{1}, 1)
	refused(t, "a nought and one", []int{0, 1}, 1)
}

func TestArrayNumbers(t *testing.T) {
	for _, n := range []int{1, 2, 3, 10, 31} {
		for _, alphabet := range []int{1, 2, 3, 7, 31, 32, 256, api.MaxInts} {
			for _, at := range []int{0, n / 2, n - 1} {
				l := make([]int, n)
				for _, x := range []int{0, alphabet / 2, alphabet - 1} {
					l[at] = x
					if sa, e := Array(l, alphabet); e != api.OK || !slices.Equal(sa, orderOf(l)) {
						t.Errorf("%v, alphabet %d: %v, %v", l, alphabet, sa, e)
					}
				}
				for _, x := range append([]int{alphabet, alphabet + 1, -alphabet}, extremes...) {
					l[at] = x
					if x < 0 || x >= alphabet {
						refused(t, "a wrong number in "+strconv.Itoa(n), l, alphabet)
					}
				}
			}
		}
	}
}

func TestArrayOfTheLongestLists(t *testing.T) {
	const n = api.MaxInts
	for _, s := range []sample{
		{"noughts", make([]int, n), 1}, {"falling", numbers(n, func(i int) int { return n - 1 - i }), n},
		{"ab again", numbers(n, func(i int) int { return i % 2 }), 2}, {"scattered numbers, one less", scattered(n-1, n, 1), n},
	} {
		checkOrder(t, s.name, s.t, arrayOf(t, s))
	}
	more := make([]int, n+1)
	refused(t, "one more than MaxInts", more, 1)
	refused(t, "one more than MaxInts", more, n)
	refused(t, "one more than MaxInts", more, n+1)
	refused(t, "one more than MaxInts", more, 0)
	more[n] = -1
	refused(t, "one more than MaxInts", more, 1)
	refused(t, "a wrong number behind MaxInts - 1", more[1:], 1)
}

func TestArrayOfLongLists(t *testing.T) {
	// As long as the symbols of a collection may be, in which an order of long common parts takes longest if it is laid by looking.
	const n = api.MaxText + api.MaxDocs
	for _, s := range []sample{
		{"alike", again([]int{3}, n), 512}, {"alike, an end", again([]int{3}, n-1, 0), 512}, {"abc again", again([]int{1, 2, 3}, n/3), 512}, {"a long part again", again(scattered(8000, 4, 1), 8), 512},
		{"fibonacci", fibonacci(21), 2}, {"turns", turns(n), 2}, {"squares", numbers(n, func(i int) int { return i * i % 7 }), 7}, {"hills", numbers(n, func(i int) int { return min(i%97, 97-i%97) }), 97},
		{"256 documents alike", slices.Concat(numbers(256, func(i int) int { return i }), again(scattered(256, 9, 2), 256)), 512},
	} {
		checkOrder(t, s.name, s.t, arrayOf(t, s))
	}
}

func TestArrayLeavesItsList(t *testing.T) {
	for _, s := range append(small(), sample{"wrong", []int{3, 1, 4, -1, 5}, 6}, sample{"wrong at its end", []int{3, 1, 4, 9}, 6}) {
		l := withRoom(s.t, 77)
		whole := slices.Clone(l[:cap(l)])
		sa, e := Array(l, s.alphabet)
		if !slices.Equal(l[:cap(l)], whole) {
			t.Errorf("%s: changed", s.name)
		}
		kept := slices.Clone(sa)
		spoil(l, 0)
		if !slices.Equal(sa, kept) {
			t.Errorf("%s: the array hangs on the list", s.name)
		}
		copy(l[:cap(l)], whole)
		spoil(sa, -9)
		if !slices.Equal(l[:cap(l)], whole) {
			t.Errorf("%s: the list hangs on the array", s.name)
		}
		again, f := Array(l, s.alphabet)
		if f != e || !slices.Equal(again, kept) {
			t.Errorf("%s: once more: %v, %v, not %v, %v", s.name, again, f, kept, e)
		}
	}
}

// P9.2

func TestTurnWrittenOut(t *testing.T) {
	for _, x := range []struct{ sa, turned []int }{
		{nil, nil}, {[]int{}, nil}, {make([]int, 0, 4), nil}, {[]int{0}, []int{0}}, {[]int{0, 1}, []int{0, 1}}, {[]int{1, 0}, []int{1, 0}},
		{[]int{0, 1, 2}, []int{0, 1, 2}}, {[]int{2, 1, 0}, []int{2, 1, 0}}, {[]int{1, 2, 0}, []int{2, 0, 1}}, {[]int{2, 0, 1}, []int{1, 2, 0}}, {[]int{0, 2, 1}, []int{0, 2, 1}},
		{[]int{4, 2, 0, 5, 3, 1}, []int{2, 5, 1, 4, 0, 3}},
	} {
		if turned, e := Turn(x.sa); e != api.OK || !slices.Equal(turned, x.turned) {
			t.Errorf("%v: %v, %v, not %v", x.sa, turned, e, x.turned)
		}
	}
}

// checkTurned holds what Turn answers of an order against the chapter's words.
func checkTurned(t *testing.T, sa []int) {
	t.Helper()
	turned, e := Turn(sa)
	if e != api.OK || len(turned) != len(sa) {
		t.Fatalf("%v: %v, %v", sa, turned, e)
	}
	for i, p := range sa {
		if turned[p] != i {
			t.Fatalf("%v: %v", sa, turned)
		}
	}
	back, e := Turn(turned)
	if e != api.OK || !slices.Equal(back, sa) {
		t.Fatalf("%v: turned twice: %v, %v", sa, back, e)
	}
}

func TestTurnOfEveryShortList(t *testing.T) {
	for n := range 8 {
		orders(n, func(sa []int) { checkTurned(t, sa) })
	}
	for n := range 6 {
		every(n, n+3, func(l []int) {
			sa := numbers(n, func(i int) int { return l[i] - 1 }) // from -1 to one more than the length
			turned, e := Turn(sa)
			if isOrder(sa) != (e == api.OK) || e != api.OK && (e != api.ErrArg || len(turned) != 0) {
				t.Fatalf("%v: %v, %v", sa, turned, e)
			}
		})
	}
}

func TestTurnOfArrays(t *testing.T) {
	for _, s := range small() {
		checkTurned(t, arrayOf(t, s))
	}
	checkTurned(t, arrayOf(t, sample{"long", scattered(100000, 256, 1), 256}))
	// Turn has no bound of its own.
	const n = api.MaxInts + 1
	checkTurned(t, numbers(n, func(i int) int { return n - 1 - i }))
}

func TestTurnRefuses(t *testing.T) {
	for _, n := range []int{1, 2, 3, 10, 1000} {
		for _, at := range []int{0, n / 2, n - 1} {
			sa := numbers(n, func(i int) int { return n - 1 - i })
			was := sa[at]
			for _, x := range append([]int{n, n + 1, -n, (was + 1) % n, (was + n - 1) % n}, extremes...) {
				sa[at] = x
				if turned, e := Turn(sa); x != was && (e != api.ErrArg || len(turned) != 0) {
					t.Errorf("%d instead of %d among %d: %v, %v", x, was, n, turned, e)
				}
			}
		}
	}
	for _, sa := range [][]int{{0, 0}, {1, 1}, {1}, {-1}, {2, 1}, {0, 2}, {1, 2, 3}, {0, 1, 1}, {1, 0, 1}, {0, 0, 0}, {-1, 0, 1}, {0, 1, 3}} {
		if turned, e := Turn(sa); e != api.ErrArg || len(turned) != 0 {
			t.Errorf("%v: %v, %v", sa, turned, e)
		}
	}
}

func TestTurnLeavesItsList(t *testing.T) {
	for _, order := range [][]int{nil, {}, {0}, {1, 0}, {3, 1, 0, 2}, {0, 0}, {0, 1, 2, -1}, {2, 1, 3}} {
		sa := withRoom(order, 77)
		whole := slices.Clone(sa[:cap(sa)])
		turned, e := Turn(sa)
		if !slices.Equal(sa[:cap(sa)], whole) {
			t.Errorf("%v: changed", order)
		}
		kept := slices.Clone(turned)
		spoil(sa, 0)
		if !slices.Equal(turned, kept) {
			t.Errorf("%v: what is answered hangs on the list", order)
		}
		copy(sa[:cap(sa)], whole)
		spoil(turned, -9)
		if !slices.Equal(sa[:cap(sa)], whole) {
			t.Errorf("%v: the list hangs on what is answered", order)
		}
		again, f := Turn(sa)
		if f != e || !slices.Equal(again, kept) {
			t.Errorf("%v: once more: %v, %v, not %v, %v", order, again, f, kept, e)
		}
	}
}

// P9.3

// wantLeast answers what Least is by the chapter's words.
func wantLeast(l []int, a, b int) int {
	switch {
	case a < 0 || b < 0 || a >= len(l) || b >= len(l) || a == b:
		return 0
	case less(l, a, b):
		return -1
	}
	return 1
}

// checkLeast holds Least of all places, and of those around, against the chapter's words.
func checkLeast(t *testing.T, l []int) {
	t.Helper()
	for a := -2; a < len(l)+3; a++ {
		for b := -2; b < len(l)+3; b++ {
			if x, want := Least(l, a, b), wantLeast(l, a, b); x != want {
				t.Fatalf("%v, %d and %d: %d, not %d", l, a, b, x, want)
			}
		}
	}
}

func TestLeastWrittenOut(t *testing.T) {
	banana := []int{2, 1, 3, 1, 3, 1}
	for _, x := range []struct {
		t          []int
		a, b, want int
	}{
		{banana, 0, 1, 1}, {banana, 1, 0, -1}, {banana, 0, 2, -1}, {banana, 2, 0, 1}, {banana, 3, 4, -1},
		{banana, 5, 3, -1}, {banana, 3, 5, 1}, {banana, 3, 1, -1}, {banana, 1, 3, 1}, {banana, 5, 1, -1}, {banana, 1, 5, 1}, {banana, 4, 2, -1}, {banana, 2, 4, 1},
		{banana, 0, 0, 0}, {banana, 3, 3, 0}, {banana, 5, 5, 0}, {banana, 6, 6, 0}, {banana, -1, -1, 0},
		{banana, -1, 0, 0}, {banana, 0, -1, 0}, {banana, 6, 0, 0}, {banana, 0, 6, 0}, {banana, 5, 6, 0}, {banana, 6, 5, 0}, {banana, -1, 6, 0}, {banana, 7, 2, 0}, {banana, 2, 7, 0},
		{nil, 0, 0, 0}, {nil, 0, 1, 0}, {nil, -1, 0, 0}, {[]int{}, 0, 0, 0}, {[]int{}, 1, 0, 0}, {[]int{4}, 0, 0, 0}, {[]int{4}, 0, 1, 0}, {[]int{4}, 1, 0, 0}, {[]int{4}, -1, 0, 0},
		{[]int{1, 1}, 0, 1, 1}, {[]int{1, 1}, 1, 0, -1}, {[]int{1, 2}, 0, 1, -1}, {[]int{1, 2}, 1, 0, 1}, {[]int{2, 1}, 0, 1, 1}, {[]int{2, 1}, 1, 0, -1},
		{[]int{math.MinInt, math.MaxInt}, 0, 1, -1}, {[]int{math.MaxInt, math.MinInt}, 0, 1, 1}, {[]int{-1, 0}, 0, 1, -1}, {[]int{0, -1}, 0, 1, 1}, {[]int{math.MinInt, 1}, 1, 0, 1}, {[]int{-5, -5}, 0, 1, 1},
	} {
		if y := Least(x.t, x.a, x.b); y != x.want {
			t.Errorf("%v, %d and %d: %d, not %d", x.t, x.a, x.b, y, x.want)
		}
	}
}

func TestLeastOfEachTwoPlaces(t *testing.T) {
	for _, s := range small() {
		if len(s.t) < 100 {
			checkLeast(t, s.t)
		}
	}
	for _, x := range []struct{ n, bound int }{{0, 1}, {1, 2}, {2, 4}, {3, 4}, {4, 4}, {5, 3}, {6, 3}, {8, 2}} {
		every(x.n, x.bound, func(l []int) { checkLeast(t, l) })
	}
	for seed := range 20 {
		l := scattered(30, 3, uint64(seed))
		checkLeast(t, numbers(len(l), func(i int) int { return []int{math.MinInt, -1, math.MaxInt}[l[i]] }))
	}
}

func TestLeastOfNoPlace(t *testing.T) {
	for _, l := range [][]int{nil, {}, {4}, {2, 1, 3, 1, 3, 1}, scattered(1000, 3, 1)} {
		for _, x := range append([]int{len(l), len(l) + 1, -len(l) - 1}, extremes...) {
			for _, y := range append([]int{0, len(l) / 2, len(l) - 1, len(l)}, extremes...) {
				if a, b := Least(l, x, y), Least(l, y, x); a != 0 || b != 0 {
					t.Errorf("%d of %d, %d: %d, %d", x, len(l), y, a, b)
				}
			}
		}
	}
}

func TestLeastOfBeginnings(t *testing.T) {
	// A suffix of these is the beginning of each that stands some parts ahead of it.
	for _, part := range [][]int{{7}, {1, 2}, {2, 1, 1}, {0, 1, 0, 2}} {
		l := again(part, 20)
		for a := range l {
			for b := a + len(part); b < len(l); b += len(part) {
				if Least(l, a, b) != 1 || Least(l, b, a) != -1 {
					t.Errorf("%v, %d and %d", l, a, b)
				}
			}
		}
	}
}

func TestLeastOfArrays(t *testing.T) {
	for _, s := range append(small(), sample{"long", scattered(50000, 3, 1), 3}) {
		sa := arrayOf(t, s)
		for i := 1; i < len(sa); i++ {
			if Least(s.t, sa[i-1], sa[i]) != -1 || Least(s.t, sa[i], sa[i-1]) != 1 {
				t.Fatalf("%s: places %d and %d", s.name, sa[i-1], sa[i])
			}
		}
	}
}

func TestLeastLeavesItsList(t *testing.T) {
	l := withRoom([]int{2, 1, 3, 1, 3, 1}, 77)
	whole := slices.Clone(l[:cap(l)])
	for a := -1; a < 8; a++ {
		for b := -1; b < 8; b++ {
			Least(l, a, b)
		}
	}
	if !slices.Equal(l[:cap(l)], whole) {
		t.Error("changed")
	}
	// The spare room is none of the list's: whatever stands in it, the answers stay.
	for _, x := range []int{math.MinInt, 0, math.MaxInt} {
		spoil(l[len(l):], x)
		checkLeast(t, l)
	}
}

// The chapter's examples.

func TestExamples(t *testing.T) {
	sa, e := Array([]int{2, 1, 3, 1, 3, 1}, 4)
	if e != api.OK || !slices.Equal(sa, []int{5, 3, 1, 0, 4, 2}) {
		t.Errorf("Array: %v, %v", sa, e)
	}
	turned, e := Turn(sa)
	if e != api.OK || !slices.Equal(turned, []int{3, 2, 5, 1, 4, 0}) {
		t.Errorf("Turn: %v, %v", turned, e)
	}
}
