package find

import (
	"math"
	"slices"
	"testing"

	"colophon/api"
	"colophon/bwt"
	"colophon/suffix"
)

// extremes are places of no list, numbers of no alphabet and steps of no finder; MaxInts, which may be a step, stands apart.
var extremes = []int{
	-1, -2, -3, -256, -api.MaxInts, math.MinInt32, math.MinInt, math.MinInt + 1,
	api.MaxInts + 1, 1 << 24, math.MaxInt32, 1 << 32, 1<<32 + 1, math.MaxInt - 1, math.MaxInt,
}

// banana has the chapter's example: a as 1, b as 2, n as 3, and an end.
var banana = []int{2, 1, 3, 1, 3, 1, 0}

// bananaOrder is the order of its suffixes.
var bananaOrder = []int{6, 5, 3, 1, 0, 4, 2}

// list is numbers of an alphabet, the last one there once, by a name.
type list struct {
	name     string
	t        []int
	alphabet int
}

// numbers answers n numbers by a rule.
func numbers(n int, rule func(i int) int) []int {
	l := make([]int, n)
	for i := range l {
		l[i] = rule(i)
	}
	return l
}

// rising answers the numbers below n.
func rising(n int) []int {
	return numbers(n, func(i int) int { return i })
}

// falling answers the numbers below n, the greatest first.
func falling(n int) []int {
	return numbers(n, func(i int) int { return n - 1 - i })
}

// scattered answers n numbers below bound that look like no rule.
func scattered(n, bound int, seed uint64) []int {
	x := seed
	return numbers(n, func(int) int {
		x = x*6364136223846793005 + 1442695040888963407
		return int((x >> 33) % uint64(bound))
	})
}

// raised answers the numbers of l, each so much greater.
func raised(l []int, by int) []int {
	return numbers(len(l), func(i int) int { return l[i] + by })
}

// closed answers the numbers of l and x behind them.
func closed(l []int, x int) []int {
	return append(slices.Clone(l), x)
}

// with answers l with x at this place.
func with(l []int, at, x int) []int {
	k := slices.Clone(l)
	k[at] = x
	return k
}

// joined answers these lists, one behind the other.
func joined(ls ...[]int) []int {
	return slices.Concat(ls...)
}

// withRoom answers a list like l, with a spare room filled by fill.
func withRoom(l []int, fill int) []int {
	k := make([]int, len(l), len(l)+5)
	copy(k, l)
	spoil(k[len(k):cap(k)], fill)
	return k
}

// spoil lays x everywhere in l, its spare room too.
func spoil(l []int, x int) {
	l = l[:cap(l)]
	for i := range l {
		l[i] = x
	}
}

// every calls f with each list of n numbers below bound.
func every(n, bound int, f func(l []int)) {
	l := make([]int, n)
	for {
		f(l)
		i := 0
		for ; i < n && l[i] == bound-1; i++ {
			l[i] = 0
		}
		if i == n {
			return
		}
		l[i]++
	}
}

// few answers the first numbers of l, so that a fault's text stays short.
func few(l []int) []int {
	return l[:min(len(l), 20)]
}

// orderOf answers by layer 9's words the places of l in the order of their suffixes.
func orderOf(l []int) []int {
	sa := rising(len(l))
	slices.SortFunc(sa, func(a, b int) int { return slices.Compare(l[a:], l[b:]) })
	return sa
}

// endsOnceBy tells by the chapter's words whether l has a last number that is there once.
func endsOnceBy(l []int) bool {
	n := 0
	for _, x := range l {
		if x == l[len(l)-1] {
			n++
		}
	}
	return n == 1
}

// mayBeBy tells by the chapter's words whether New makes a finder of these, if sa is short.
func mayBeBy(t, sa []int, alphabet, step int) bool {
	if alphabet < 0 || alphabet >= api.MaxInts || len(t) > api.MaxInts || slices.ContainsFunc(t, func(x int) bool { return x < 0 || x >= alphabet }) {
		return false
	}
	return endsOnceBy(t) && slices.Equal(sa, orderOf(t)) && step >= 1 && step <= api.MaxInts
}

// turnedBy answers by layer 11's words the turned row of l.
func turnedBy(l, sa []int) []int {
	return numbers(len(sa), func(i int) int {
		if sa[i] == 0 {
			return l[len(l)-1]
		}
		return l[sa[i]-1]
	})
}

// narrowBy answers by the chapter's words what Narrow answers, of an l with this turned row.
func narrowBy(row []int, alphabet, a, b, c int) (int, int) {
	if c < 0 || c >= alphabet || a < 0 || a > b || b > len(row) {
		return 0, 0
	}
	less, from, to := 0, 0, 0
	for i, x := range row {
		if x < c {
			less++
		}
		if x == c && i < a {
			from++
		}
		if x == c && i < b {
			to++
		}
	}
	if from == to {
		return 0, 0
	}
	return less + from, less + to
}

// begins tells whether l's suffix at this place begins with p.
func begins(l []int, place int, p []int) bool {
	return place+len(p) <= len(l) && slices.Equal(l[place:place+len(p)], p)
}

// rangeBy answers by the chapter's words the range of p, and fails if the suffixes that begin with it don't stand side by side.
func rangeBy(t *testing.T, l, sa, p []int) (int, int) {
	t.Helper()
	a, b, many := -1, 0, 0
	for i, place := range sa {
		if !begins(l, place, p) {
			continue
		}
		if a < 0 {
			a = i
		}
		b = i + 1
		many++
	}
	if many == 0 {
		return 0, 0
	}
	if b-a != many {
		t.Fatalf("%v in %v: %d from %d ahead of %d", p, few(l), many, a, b)
	}
	return a, b
}

// placesBy answers by the chapter's words where p stands, rising.
func placesBy(l, p []int) []int {
	var places []int
	for place := range l {
		if len(p) > 0 && begins(l, place, p) {
			places = append(places, place)
		}
	}
	return places
}

// beforesBy answers by the chapter's words of each suffix which number of the array the one ahead of it has.
func beforesBy(sa []int) []int {
	at := make([]int, len(sa))
	for i, place := range sa {
		at[place] = i
	}
	return numbers(len(sa), func(i int) int {
		if sa[i] == 0 {
			return at[len(sa)-1]
		}
		return at[sa[i]-1]
	})
}

// made answers the finder of a list, whose order is sa.
func made(t *testing.T, l list, sa []int, step int) *Finder {
	t.Helper()
	f, e := New(l.t, sa, l.alphabet, step)
	if e != api.OK || f == nil {
		t.Fatalf("%s: New of %d numbers %v below %d, by %d, step %d: %v, %v", l.name, len(l.t), few(l.t), l.alphabet, len(sa), step, f != nil, e)
	}
	return f
}

// refused holds that New refuses these.
func refused(t *testing.T, l, sa []int, alphabet, step int) {
	t.Helper()
	if f, e := New(l, sa, alphabet, step); f != nil || e != api.ErrArg {
		t.Errorf("New of %d numbers %v below %d, by %d %v, step %d: %v, %v", len(l), few(l), alphabet, len(sa), few(sa), step, f != nil, e)
	}
}

// asked holds all answers of a finder of a short list against the chapter's words, of these places, numbers and patterns.
func asked(t *testing.T, l list, sa []int, step int, f *Finder, is, cs []int, ps [][]int) {
	t.Helper()
	if f.Len() != len(l.t) {
		t.Fatalf("%s: %v: Len %d", l.name, few(l.t), f.Len())
	}
	wantSteps(t, l, sa, step, f, is)
	row := turnedBy(l.t, sa)
	for _, a := range is {
		for _, b := range is {
			for _, c := range cs {
				wantNarrow(t, l, row, f, a, b, c)
			}
		}
	}
	for _, p := range ps {
		wantPattern(t, l, sa, f, p)
	}
}

// wantNarrow holds Narrow against the chapter's words.
func wantNarrow(t *testing.T, l list, row []int, f *Finder, a, b, c int) {
	t.Helper()
	from, to := f.Narrow(a, b, c)
	if x, y := narrowBy(row, l.alphabet, a, b, c); from != x || to != y {
		t.Fatalf("%s: %v below %d: Narrow(%d, %d, %d): %d, %d, not %d, %d", l.name, few(l.t), l.alphabet, a, b, c, from, to, x, y)
	}
}

// wantSteps holds Before and Place against the chapter's words.
func wantSteps(t *testing.T, l list, sa []int, step int, f *Finder, is []int) {
	t.Helper()
	befores := beforesBy(sa)
	for _, i := range is {
		before, place, goings := -1, -1, 0
		if i >= 0 && i < len(sa) {
			before, place, goings = befores[i], sa[i], sa[i]%step
		}
		if got := f.Before(i); got != before {
			t.Fatalf("%s: %v: Before(%d): %d, not %d", l.name, few(l.t), i, got, before)
		}
		if p, n := f.Place(i); p != place || n != goings || n >= step {
			t.Fatalf("%s: %v, step %d: Place(%d): %d, %d, not %d, %d", l.name, few(l.t), step, i, p, n, place, goings)
		}
	}
}

// wantPattern holds Range and Places against the chapter's words.
func wantPattern(t *testing.T, l list, sa []int, f *Finder, p []int) {
	t.Helper()
	from, to := f.Range(p)
	if a, b := rangeBy(t, l.t, sa, p); from != a || to != b {
		t.Fatalf("%s: %v: Range of %d numbers %v: %d, %d, not %d, %d", l.name, few(l.t), len(p), few(p), from, to, a, b)
	}
	if got, want := f.Places(p), placesBy(l.t, p); !slices.Equal(got, want) {
		t.Fatalf("%s: %v: Places of %d numbers %v: %d, %v, not %d, %v", l.name, few(l.t), len(p), few(p), len(got), few(got), len(want), few(want))
	}
}

// wantNone holds that p stands nowhere.
func wantNone(t *testing.T, l list, f *Finder, p []int) {
	t.Helper()
	if a, b := f.Range(p); a != 0 || b != 0 || len(f.Places(p)) != 0 {
		t.Fatalf("%s: %v: %d numbers %v: from %d ahead of %d, %v", l.name, few(l.t), len(p), few(p), a, b, few(f.Places(p)))
	}
}

// spots answers places about which a list may be asked: those of the list, or of a long one some, those beside it and far away.
func spots(n int) []int {
	l := []int{-2, -1, 0, 1, n / 3, n / 2, n - 2, n - 1, n, n + 1, n + 2, math.MinInt, math.MaxInt}
	if n <= 12 {
		l = append(l, rising(n)...)
	}
	slices.Sort(l)
	return slices.Compact(l)
}

// symbols answers numbers about which a list may be asked: some that are there, the last one, and those at and beside the alphabet's ends.
func symbols(l list) []int {
	n := len(l.t)
	last := l.t[n-1]
	s := []int{-1, 0, 1, l.t[0], l.t[n/2], l.t[n/3], l.t[max(n-2, 0)], last - 1, last, last + 1, slices.Max(l.t), slices.Max(l.t) + 1, slices.Min(l.t) - 1, l.alphabet - 1, l.alphabet, l.alphabet + 1, math.MinInt, math.MaxInt}
	slices.Sort(s)
	return slices.Compact(s)
}

// patterns answers patterns about which a list may be asked: what stands in it at many places, and the like of it that doesn't.
func patterns(l list) [][]int {
	n := len(l.t)
	ps := [][]int{nil, {}, l.t, closed(l.t, l.t[0]), closed(l.t, l.t[n-1]), joined(l.t, l.t), joined(l.t[n-1:], l.t), joined(l.t[n-1:], l.t[:1]), joined([]int{0}, l.t), joined(l.t[n/2:], l.t[:n/2])}
	for _, many := range []int{1, 2, 3, 7, n / 2, n - 1} {
		for _, at := range []int{0, 1, n / 3, n / 2, n - many - 1, n - many} {
			if many < 1 || at < 0 || at+many > n {
				continue
			}
			p := l.t[at : at+many]
			ps = append(ps, p, joined(p, p), joined(l.t[n-1:], p), with(p, 0, p[0]+1), with(p, many-1, p[many-1]-1), with(p, many/2, l.alphabet), with(p, many/2, -1), with(p, many/2, l.t[n-1]))
		}
	}
	for _, c := range symbols(l) {
		ps = append(ps, []int{c}, []int{c, l.t[n/2]}, []int{l.t[n/2], c}, []int{c, c})
	}
	return ps
}

// steps answers steps that a list of n numbers may have.
func steps(n int) []int {
	l := []int{1, 2, 3, 7, 8, n/2 + 1, max(n-1, 1), n, n + 1, 2*n + 1, api.MaxInts - 1, api.MaxInts}
	slices.Sort(l)
	return slices.Compact(l)
}

// check holds the finders of a list, of many steps, against the chapter's words.
func check(t *testing.T, l list, all []int) {
	t.Helper()
	sa := orderOf(l.t)
	is, cs, ps := spots(len(l.t)), symbols(l), patterns(l)
	for _, step := range all {
		asked(t, l, sa, step, made(t, l, sa, step), is, cs, ps)
	}
}

// fibonacci answers the first n of the numbers 1 and 2 in which each part is the two parts ahead of it.
func fibonacci(n int) []int {
	a, b := []int{2}, []int{2, 1}
	for len(b) < n {
		a, b = b, joined(b, a)
	}
	return b[:n]
}

// longLists answers lists of many lengths and kinds, their last number the least one, the greatest one, or between.
func longLists() []list {
	var all []list
	for _, n := range []int{1, 2, 3, 10, 63, 64, 65, 130, 520} {
		for _, x := range []struct {
			name  string
			l     []int
			bound int
		}{
			{"alike", make([]int, n), 1}, {"two", scattered(n, 2, 1), 2}, {"three", scattered(n, 3, 2), 3}, {"bytes", scattered(n, 256, 3), 256}, {"rising", rising(n), n}, {"falling", falling(n), n},
			{"again", slices.Repeat([]int{1, 0, 1, 2}, n)[:n], 3}, {"fibonacci", fibonacci(n), 3}, {"squares", numbers(n, func(i int) int { return i * i % 5 }), 5}, {"runs", numbers(n, func(i int) int { return i / 9 }), n},
		} {
			all = append(all,
				list{x.name + ", least last", closed(raised(x.l, 1), 0), x.bound + 1},
				list{x.name + ", greatest last", closed(x.l, x.bound), x.bound + 1},
				list{x.name + ", last between, room above", closed(numbers(n, func(i int) int { return x.l[i] * 2 }), x.bound/2*2+1), 2*x.bound + 9},
			)
		}
	}
	return all
}

// someLists answers lists of few and of many numbers.
func someLists() []list {
	return []list{
		{"one", []int{0}, 1}, {"one of many", []int{5}, 300}, {"two", []int{1, 0}, 2}, {"two, rising", []int{3, 7}, 8}, {"banana", banana, 4}, {"greatest last", []int{1, 2, 1, 1, 2, 1, 2, 9}, 10}, {"last between", []int{4, 0, 4, 4, 0, 2}, 5},
		{"alike", closed(make([]int, 40), 1), 2}, {"many", closed(raised(scattered(150, 4, 21), 1), 0), 5}, {"bytes", closed(raised(scattered(90, 256, 22), 3), 1), 259}, {"wide", closed(raised(scattered(60, 4000, 23), 1), 0), api.MaxInts - 1},
	}
}

// shortLists calls f with each short list that may have a finder, and an alphabet.
func shortLists(f func(l list)) {
	for _, x := range []struct{ n, bound int }{{1, 1}, {1, 4}, {2, 4}, {3, 4}, {4, 4}, {5, 3}, {6, 3}, {7, 2}} {
		every(x.n, x.bound, func(l []int) {
			if endsOnceBy(l) {
				f(list{"short", l, x.bound})
				f(list{"short, room above", l, x.bound + 2})
			}
		})
	}
}

// P15.1

func TestNewHeldAgainstTheWords(t *testing.T) {
	for n := range 4 {
		for m := range 5 {
			every(n, 5, func(l []int) {
				l = raised(l, -1) // from -1 to 3
				every(m, n+2, func(sa []int) {
					sa = raised(sa, -1) // from -1 to the length
					for alphabet := -1; alphabet < 6; alphabet++ {
						for step := range 3 {
							if mayBeBy(l, sa, alphabet, step) {
								made(t, list{"short", l, alphabet}, sa, step)
							} else {
								refused(t, l, sa, alphabet, step)
							}
						}
					}
				})
			})
		}
	}
}

func TestNewRefusesOtherAlphabets(t *testing.T) {
	for _, l := range someLists() {
		sa := orderOf(l.t)
		for _, step := range []int{1, 8, api.MaxInts} {
			for alphabet := -2; alphabet <= min(slices.Max(l.t), 300); alphabet++ {
				refused(t, l.t, sa, alphabet, step)
			}
			for _, alphabet := range append([]int{api.MaxInts, slices.Max(l.t)}, extremes...) {
				refused(t, l.t, sa, alphabet, step)
			}
		}
		for _, alphabet := range []int{slices.Max(l.t) + 1, slices.Max(l.t) + 2, api.MaxInts - 2, api.MaxInts - 1} {
			check(t, list{l.name, l.t, alphabet}, []int{3})
		}
	}
}

func TestNewOfTheGreatestNumbers(t *testing.T) {
	const most = api.MaxInts - 2 // the greatest number of the greatest alphabet
	for _, l := range [][]int{{most}, {0, most}, {most, 0}, {most, most - 1, most, most - 1, 0}, {1, 2, 1, most}, {most, 0, most, most - 1}} {
		check(t, list{"greatest", l, api.MaxInts - 1}, []int{1, 2, api.MaxInts})
		refused(t, l, orderOf(l), most, 1)
		refused(t, raised(l, 1), orderOf(l), api.MaxInts, 1) // layer 9 has an order of these
		refused(t, raised(l, 1), orderOf(l), api.MaxInts-1, 1)
	}
}

func TestNewRefusesOtherNumbers(t *testing.T) {
	for _, l := range someLists() {
		n := len(l.t)
		for _, at := range []int{0, n / 2, n - 1} {
			for _, x := range append([]int{l.alphabet, l.alphabet + 1, api.MaxInts}, extremes...) {
				k := with(l.t, at, x)
				refused(t, k, orderOf(k), l.alphabet, 2)
				refused(t, k, orderOf(l.t), l.alphabet, 2)
			}
		}
	}
}

func TestNewRefusesNoNumbers(t *testing.T) {
	for _, l := range [][]int{nil, {}, make([]int, 0, 4), banana[:0]} {
		for _, sa := range [][]int{nil, {}, {0}, {0, 1}, make([]int, 0, 3)} {
			for _, alphabet := range append([]int{0, 1, 4, api.MaxInts - 1, api.MaxInts}, extremes...) {
				for _, step := range []int{1, 2, api.MaxInts, 0, -1} {
					refused(t, l, sa, alphabet, step)
				}
			}
		}
	}
}

func TestNewRefusesALastNumberThatIsThereMoreThanOnce(t *testing.T) {
	for _, l := range [][]int{{0, 0}, {1, 1}, {1, 2, 1}, {0, 1, 2, 3, 0}, {3, 2, 1, 0, 0}, {0, 0, 0, 0}, {2, 2, 2}, {2, 1, 3, 1, 3, 1}, {9, 1, 9}, {1, 9, 1, 9}} {
		for _, step := range []int{1, 2, 9} {
			refused(t, l, orderOf(l), 10, step)
			made(t, list{"closed", closed(l, 11), 12}, orderOf(closed(l, 11)), step)
		}
	}
	for _, l := range someLists() {
		last := l.t[len(l.t)-1]
		for at := range l.t[1:] {
			k := with(l.t, at, last)
			refused(t, k, orderOf(k), l.alphabet, 3)
		}
		for _, k := range [][]int{closed(l.t, last), joined([]int{last}, l.t), joined(l.t, l.t)} {
			refused(t, k, orderOf(k), l.alphabet, 3)
		}
	}
}

func TestNewRefusesOtherOrders(t *testing.T) {
	for _, l := range someLists() {
		sa, n := orderOf(l.t), len(l.t)
		some := func(others ...[]int) {
			for _, other := range others {
				refused(t, l.t, other, l.alphabet, 1)
				refused(t, l.t, other, l.alphabet, n+4)
			}
		}
		some(nil, []int{}, sa[:n-1], sa[1:], sa[:0], closed(sa, n), closed(sa, 0), closed(sa, sa[n-1]), closed(sa, -1), joined(sa[:1], sa), joined([]int{n}, sa), joined(sa, sa))
		for i := range sa {
			for k := range i {
				some(with(with(sa, i, sa[k]), k, sa[i])) // two places exchanged
				some(with(sa, i, sa[k]))
			}
			some(with(sa, i, n), with(sa, i, -1), with(sa, i, sa[i]-n), with(sa, i, sa[i]+n), slices.Delete(slices.Clone(sa), i, i+1), slices.Insert(slices.Clone(sa), i, sa[i]))
		}
		for _, x := range append([]int{api.MaxInts}, extremes...) {
			some(with(sa, 0, x), with(sa, n/2, x), with(sa, n-1, x))
		}
		if n > 1 {
			some(joined(sa[1:], sa[:1]), slices.Repeat([]int{0}, n), make([]int, n))
			reversed := slices.Clone(sa)
			slices.Reverse(reversed)
			some(reversed)
		}
		made(t, l, sa, 1)
	}
}

func TestNewRefusesTheOrderOfTheListGoneRound(t *testing.T) {
	// Whoever takes what is behind the end for the beginning has other orders of these.
	for _, l := range [][]int{{1, 0, 1, 2, 0, 1, 3}, {0, 1, 0, 2}, {2, 1, 2, 0}, {1, 1, 1, 9}, {4, 0, 4, 4, 0, 2}} {
		round := rising(len(l))
		slices.SortFunc(round, func(a, b int) int { return slices.Compare(joined(l[a:], l[:a]), joined(l[b:], l[:b])) })
		if mayBeBy(l, round, 10, 1) {
			made(t, list{"round", l, 10}, round, 1)
		} else {
			refused(t, l, round, 10, 1)
		}
		check(t, list{"round", l, 10}, []int{1, 3})
	}
}

func TestNewOfEachStep(t *testing.T) {
	for _, l := range someLists() {
		sa := orderOf(l.t)
		for _, step := range append([]int{0}, extremes...) {
			refused(t, l.t, sa, l.alphabet, step)
		}
		check(t, l, steps(len(l.t)))
	}
}

func TestNewOfMoreThanMayBe(t *testing.T) {
	l := make([]int, api.MaxInts+1)
	l[api.MaxInts] = 1
	refused(t, l, rising(api.MaxInts+1), 2, 1)
	refused(t, l, nil, 2, 1)
}

func TestNewOfAsManyAsMayBe(t *testing.T) {
	const n = api.MaxInts
	l := list{"as many as may be", closed(make([]int, n-1), 1), 2}
	sa := rising(n) // each suffix has one nought more than the one behind it
	f := made(t, l, sa, 1000)
	if a, b := f.Range([]int{0}); f.Len() != n || a != 0 || b != n-1 {
		t.Errorf("Len %d, from %d ahead of %d", f.Len(), a, b)
	}
	if a, b := f.Range([]int{0, 1}); a != n-2 || b != n-1 {
		t.Errorf("from %d ahead of %d", a, b)
	}
	wantSteps(t, list{"as many as may be", nil, 2}, sa, 1000, f, []int{-1, 0, 1, 999, 1000, n/2 + 1, n - 2, n - 1, n, math.MaxInt})
	if p := f.Places([]int{0, 0}); !slices.Equal(p, rising(n-2)) {
		t.Errorf("%d places", len(p))
	}
	refused(t, l.t, sa[:n-1], 2, 1000)
	sa[n-1], sa[n-2] = n-2, n-1
	refused(t, l.t, sa, 2, 1000)
}

// All answers.

func TestEveryShortListHeldAgainstTheWords(t *testing.T) {
	shortLists(func(l list) {
		sa, n := orderOf(l.t), len(l.t)
		is := raised(rising(n+4), -2)
		cs := raised(rising(l.alphabet+4), -2)
		for step := 1; step <= n+2; step++ {
			f := made(t, l, sa, step)
			if step == 1 {
				asked(t, l, sa, step, f, is, cs, patterns(l))
			}
			wantSteps(t, l, sa, step, f, is)
			for _, p := range [][]int{l.t, l.t[:1], l.t[n/2:], {0}, {1}, {0, 1}, nil} {
				wantPattern(t, l, sa, f, p)
			}
		}
	})
}

func TestEveryShortPatternHeldAgainstTheWords(t *testing.T) {
	for _, x := range []struct{ n, bound, most int }{{1, 2, 4}, {2, 3, 4}, {3, 3, 5}, {4, 3, 5}, {5, 2, 7}} {
		every(x.n, x.bound, func(l []int) {
			if !endsOnceBy(l) {
				return
			}
			l = slices.Clone(l)
			sa := orderOf(l)
			k := list{"short", l, x.bound}
			f := made(t, k, sa, 2)
			for m := range x.most {
				every(m, x.bound+2, func(p []int) {
					wantPattern(t, k, sa, f, raised(p, -1)) // from -1 to the alphabet
				})
			}
		})
	}
}

func TestLongListsHeldAgainstTheWords(t *testing.T) {
	for _, l := range longLists() {
		check(t, l, []int{1, 3, 8, len(l.t), len(l.t) + 1})
	}
}

// P15.2

func TestNarrowWrittenOut(t *testing.T) {
	f := made(t, list{"banana", banana, 4}, bananaOrder, 2) // its turned row is 1 3 3 2 0 1 1
	least, greatest := math.MinInt, math.MaxInt
	for _, x := range []struct{ a, b, c, from, to int }{
		{0, 7, 0, 0, 1}, {0, 7, 1, 1, 4}, {0, 7, 2, 4, 5}, {0, 7, 3, 5, 7}, {0, 7, -1, 0, 0}, {0, 7, 4, 0, 0}, {0, 7, 5, 0, 0}, {0, 7, least, 0, 0}, {0, 7, greatest, 0, 0}, {0, 7, 1 << 32, 0, 0}, {0, 7, 1<<32 + 1, 0, 0}, {0, 7, api.MaxInts, 0, 0},
		{1, 4, 3, 5, 7}, {1, 4, 2, 4, 5}, {1, 4, 1, 0, 0}, {1, 4, 0, 0, 0}, {5, 7, 1, 2, 4}, {5, 7, 3, 0, 0}, {0, 1, 1, 1, 2}, {0, 1, 0, 0, 0}, {4, 5, 0, 0, 1}, {4, 5, 1, 0, 0}, {2, 6, 3, 6, 7}, {2, 6, 1, 2, 3}, {6, 7, 1, 3, 4},
		{0, 0, 1, 0, 0}, {3, 3, 2, 0, 0}, {7, 7, 1, 0, 0}, {7, 7, 0, 0, 0}, {8, 8, 1, 0, 0}, {-1, -1, 1, 0, 0}, {-1, 7, 1, 0, 0}, {0, 8, 1, 0, 0}, {-1, 8, 1, 0, 0}, {4, 1, 1, 0, 0}, {7, 0, 1, 0, 0}, {6, 5, 1, 0, 0}, {least, greatest, 1, 0, 0}, {greatest, least, 1, 0, 0}, {0, greatest, 1, 0, 0}, {least, 7, 1, 0, 0}, {-7, 0, 1, 0, 0}, {7, 14, 1, 0, 0},
	} {
		if from, to := f.Narrow(x.a, x.b, x.c); from != x.from || to != x.to {
			t.Errorf("Narrow(%d, %d, %d): %d, %d, not %d, %d", x.a, x.b, x.c, from, to, x.from, x.to)
		}
	}
}

func TestNarrowFarOutside(t *testing.T) {
	for _, l := range someLists() {
		sa, n := orderOf(l.t), len(l.t)
		f, row := made(t, l, sa, 4), turnedBy(l.t, sa)
		places := append([]int{0, n / 2, n - 1, n, n + 1, api.MaxInts}, extremes...)
		for _, a := range places {
			for _, b := range places {
				for _, c := range append(symbols(l), extremes...) {
					wantNarrow(t, l, row, f, a, b, c)
				}
			}
		}
	}
}

func TestNarrowByEachNumberHasEachSuffixOnce(t *testing.T) {
	for _, l := range longLists() {
		if l.alphabet > 300 {
			continue
		}
		n := len(l.t)
		f := made(t, l, orderOf(l.t), 3)
		end := 0
		for c := range l.alphabet {
			if a, b := f.Narrow(0, n, c); a != b {
				if a != end || b <= a {
					t.Fatalf("%s: %v: %d: from %d ahead of %d, behind %d", l.name, few(l.t), c, a, b, end)
				}
				end = b
			}
		}
		if end != n {
			t.Fatalf("%s: %v: %d in all, not %d", l.name, few(l.t), end, n)
		}
	}
}

func TestNarrowByTheLastNumberGoesRound(t *testing.T) {
	for _, l := range append(someLists(), longLists()...) {
		sa, n := orderOf(l.t), len(l.t)
		f, last := made(t, l, sa, 5), l.t[n-1]
		at, whole := slices.Index(sa, n-1), slices.Index(sa, 0)
		for _, p := range [][]int{nil, l.t[:1], l.t[:min(2, n)], l.t[:n/2], l.t} {
			a, b := f.Range(p)
			if from, to := f.Narrow(a, b, last); from != at || to != at+1 {
				t.Fatalf("%s: %v: of %v by %d: from %d ahead of %d, not %d", l.name, few(l.t), few(p), last, from, to, at)
			}
		}
		if from, to := f.Narrow(whole, whole+1, last); from != at || to != at+1 {
			t.Fatalf("%s: %v: the whole list by %d: from %d ahead of %d, not %d", l.name, few(l.t), last, from, to, at)
		}
		for _, ab := range [][2]int{{0, whole}, {whole + 1, n}} {
			if from, to := f.Narrow(ab[0], ab[1], last); from != 0 || to != 0 {
				t.Fatalf("%s: %v: without the whole list by %d: from %d ahead of %d", l.name, few(l.t), last, from, to)
			}
		}
	}
}

// P15.3

func TestRangeWrittenOut(t *testing.T) {
	f := made(t, list{"banana", banana, 4}, bananaOrder, 3)
	for _, x := range []struct {
		p        []int
		from, to int
	}{
		{nil, 0, 7}, {[]int{}, 0, 7}, {make([]int, 0, 5), 0, 7}, {[]int{9, 9}[:0], 0, 7},
		{[]int{0}, 0, 1}, {[]int{1}, 1, 4}, {[]int{2}, 4, 5}, {[]int{3}, 5, 7}, {[]int{4}, 0, 0}, {[]int{-1}, 0, 0}, {[]int{math.MinInt}, 0, 0}, {[]int{math.MaxInt}, 0, 0},
		{[]int{1, 3}, 2, 4}, {[]int{1, 3, 1}, 2, 4}, {[]int{1, 3, 1, 3}, 3, 4}, {[]int{1, 3, 1, 0}, 2, 3}, {[]int{3, 1}, 5, 7}, {[]int{3, 1, 0}, 5, 6}, {[]int{3, 1, 3}, 6, 7}, {[]int{1, 0}, 1, 2}, {[]int{2, 1}, 4, 5}, {[]int{2, 1, 3, 1, 3, 1}, 4, 5}, {banana, 4, 5},
		{[]int{0, 2}, 0, 0}, {[]int{0, 0}, 0, 0}, {[]int{0, 2, 1}, 0, 0}, {[]int{1, 0, 2}, 0, 0}, {closed(banana, 2), 0, 0}, {closed(banana, 0), 0, 0}, {joined([]int{0}, banana), 0, 0}, {joined(banana, banana), 0, 0}, {joined(banana, banana[:3]), 0, 0},
		{[]int{3, 3}, 0, 0}, {[]int{1, 1}, 0, 0}, {[]int{2, 2}, 0, 0}, {[]int{1, 2}, 0, 0}, {[]int{1, 4}, 0, 0}, {[]int{4, 1}, 0, 0}, {[]int{-1, 1}, 0, 0}, {[]int{1, -1}, 0, 0}, {[]int{1, 3, 1, 3, 1, 3}, 0, 0}, {[]int{1, 5, 1}, 0, 0}, {[]int{1, math.MaxInt, 1}, 0, 0}, {[]int{1, 1 << 32, 3}, 0, 0},
	} {
		if a, b := f.Range(x.p); a != x.from || b != x.to {
			t.Errorf("Range(%v): %d, %d, not %d, %d", x.p, a, b, x.from, x.to)
		}
	}
}

func TestRangeIsNarrowNumberByNumber(t *testing.T) {
	for _, l := range append(someLists(), longLists()...) {
		n := len(l.t)
		f, last := made(t, l, orderOf(l.t), 6), l.t[n-1]
		for _, p := range patterns(l) {
			a, b := 0, n
			for _, c := range slices.Backward(p) {
				a, b = f.Narrow(a, b, c)
			}
			if len(p) > 0 && slices.Contains(p[:len(p)-1], last) {
				a, b = 0, 0 // Narrow may have gone round
			}
			if x, y := f.Range(p); x != a || y != b {
				t.Fatalf("%s: %v: %d numbers %v: %d, %d, by Narrow %d, %d", l.name, few(l.t), len(p), few(p), x, y, a, b)
			}
		}
	}
}

func TestRangeDoesntGoRound(t *testing.T) {
	for _, l := range append(someLists(), longLists()...) {
		n := len(l.t)
		f := made(t, l, orderOf(l.t), 2)
		for _, k := range []int{1, 2, n / 2, n - 1, n, 2 * n, 3*n + 1} {
			if k > 0 {
				wantNone(t, l, f, joined(l.t, slices.Repeat(l.t, 4)[:k]))
				wantNone(t, l, f, joined(l.t[n-1:], slices.Repeat(l.t, 4)[:k]))
				wantNone(t, l, f, joined(l.t[n/2:], slices.Repeat(l.t, 4)[:k]))
			}
		}
	}
}

func TestRangeOfVeryLongPatterns(t *testing.T) {
	l := list{"alike", closed(make([]int, 50), 1), 2}
	f := made(t, l, orderOf(l.t), 7)
	for _, m := range []int{51, 52, 100, 1000, 1 << 20} {
		wantNone(t, l, f, make([]int, m))
		wantNone(t, l, f, closed(make([]int, m), 1))
		wantNone(t, l, f, slices.Repeat([]int{1}, m))
		wantNone(t, l, f, slices.Repeat([]int{math.MaxInt}, m))
	}
	for m := 1; m <= 50; m++ {
		wantPattern(t, l, orderOf(l.t), f, make([]int, m))
		wantPattern(t, l, orderOf(l.t), f, closed(make([]int, m), 1))
	}
}

func TestBeforeAndPlaceWrittenOut(t *testing.T) {
	befores := []int{1, 5, 6, 4, 0, 2, 3} // of banana's suffixes 6 5 3 1 0 4 2
	for _, x := range []struct {
		step   int
		goings []int
	}{
		{1, []int{0, 0, 0, 0, 0, 0, 0}}, {2, []int{0, 1, 1, 1, 0, 0, 0}}, {3, []int{0, 2, 0, 1, 0, 1, 2}}, {4, []int{2, 1, 3, 1, 0, 0, 2}}, {6, []int{0, 5, 3, 1, 0, 4, 2}}, {7, bananaOrder}, {8, bananaOrder}, {api.MaxInts, bananaOrder},
	} {
		f := made(t, list{"banana", banana, 4}, bananaOrder, x.step)
		for i, want := range bananaOrder {
			if p, n := f.Place(i); p != want || n != x.goings[i] {
				t.Errorf("step %d: Place(%d): %d, %d, not %d, %d", x.step, i, p, n, want, x.goings[i])
			}
			if b := f.Before(i); b != befores[i] {
				t.Errorf("Before(%d): %d, not %d", i, b, befores[i])
			}
		}
		for _, i := range append([]int{7, 8, 14, api.MaxInts}, extremes...) {
			if p, n := f.Place(i); p != -1 || n != 0 || f.Before(i) != -1 {
				t.Errorf("step %d: at %d: %d, %d, %d", x.step, i, p, n, f.Before(i))
			}
		}
	}
}

func TestBeforeAndPlaceFarOutside(t *testing.T) {
	for _, l := range someLists() {
		sa, n := orderOf(l.t), len(l.t)
		for _, step := range []int{1, 3, n, api.MaxInts} {
			f := made(t, l, sa, step)
			wantSteps(t, l, sa, step, f, append([]int{0, n - 1, n, n + 1, -n, -n - 1, 2 * n, api.MaxInts}, extremes...))
		}
	}
}

func TestBeforeGoesOnceThroughTheArray(t *testing.T) {
	for _, l := range append(someLists(), longLists()...) {
		sa, n := orderOf(l.t), len(l.t)
		f := made(t, l, sa, 4)
		i := slices.Index(sa, 0)
		for k := range n {
			i = f.Before(i)
			if sa[i] != n-1-k {
				t.Fatalf("%s: %v: after %d: %d, not %d", l.name, few(l.t), k, sa[i], n-1-k)
			}
		}
		if sa[i] != 0 {
			t.Fatalf("%s: %v: ends at %d", l.name, few(l.t), sa[i])
		}
	}
}

func TestPlaceWithEachStep(t *testing.T) {
	for _, l := range []list{{"many", closed(raised(scattered(60, 3, 31), 1), 0), 4}, {"greatest last", closed(scattered(45, 2, 32), 2), 3}, {"last between", closed(numbers(33, func(i int) int { return i % 4 / 2 * 2 }), 1), 3}, {"alike", closed(make([]int, 30), 1), 2}} {
		sa, n := orderOf(l.t), len(l.t)
		for step := 1; step <= n+5; step++ {
			f := made(t, l, sa, step)
			wantSteps(t, l, sa, step, f, rising(n))
			wantPattern(t, l, sa, f, l.t[3:4])
			wantPattern(t, l, sa, f, l.t[5:7])
		}
	}
}

// P15.4

func TestPlacesWrittenOut(t *testing.T) {
	for _, step := range []int{1, 2, 3, 7, 8, api.MaxInts} {
		f := made(t, list{"banana", banana, 4}, bananaOrder, step)
		for _, x := range []struct{ p, want []int }{
			{nil, nil}, {[]int{}, nil}, {make([]int, 0, 5), nil}, {[]int{1}[:0], nil},
			{[]int{0}, []int{6}}, {[]int{1}, []int{1, 3, 5}}, {[]int{2}, []int{0}}, {[]int{3}, []int{2, 4}}, {[]int{1, 3}, []int{1, 3}}, {[]int{3, 1}, []int{2, 4}}, {[]int{1, 3, 1}, []int{1, 3}}, {[]int{1, 3, 1, 3}, []int{1}}, {[]int{1, 0}, []int{5}}, {[]int{2, 1, 3}, []int{0}}, {banana, []int{0}}, {banana[3:], []int{3}},
			{[]int{0, 2}, nil}, {[]int{0, 0}, nil}, {[]int{1, 1}, nil}, {[]int{4}, nil}, {[]int{-1}, nil}, {[]int{3, 4}, nil}, {closed(banana, 2), nil}, {closed(banana, 0), nil}, {joined(banana, banana), nil}, {[]int{math.MaxInt, 1}, nil}, {[]int{math.MinInt}, nil},
		} {
			if got := f.Places(x.p); !slices.Equal(got, x.want) {
				t.Errorf("step %d: Places(%v): %v, not %v", step, x.p, got, x.want)
			}
		}
	}
}

func TestPlacesOfManyOverOneAnother(t *testing.T) {
	l := list{"again", closed(slices.Repeat([]int{0, 1}, 200), 2), 3}
	sa := orderOf(l.t)
	for _, step := range []int{1, 2, 5, 6, 100, 401, api.MaxInts} {
		f := made(t, l, sa, step)
		for m := 1; m < 402; m += 1 + m/4 {
			for _, at := range []int{0, 1, 7, 401 - m} {
				wantPattern(t, l, sa, f, l.t[at:min(at+m, 401)])
			}
		}
	}
}

func TestPlacesOfManyWithAGreatStep(t *testing.T) {
	// Each found by itself would take half of the list's length.
	const n = 1 << 17
	l := list{"long", closed(raised(scattered(n, 2, 41), 1), 0), 3}
	sa, e := suffix.Array(l.t, 3)
	if e != api.OK {
		t.Fatal(e)
	}
	for _, step := range []int{8, 1000, n, api.MaxInts} {
		f := made(t, l, sa, step)
		for _, p := range [][]int{{1}, {2}, {1, 2}, {2, 2, 2, 2}, l.t[n-9:], l.t[n-3:], l.t[:20], {0}, {0, 1}, {3}} {
			if got, want := f.Places(p), placesBy(l.t, p); !slices.Equal(got, want) {
				t.Errorf("step %d: %v: %d places, not %d", step, p, len(got), len(want))
			}
		}
	}
}

// A nil finder.

func TestNilFinder(t *testing.T) {
	var f *Finder
	if f.Len() != 0 {
		t.Errorf("Len %d", f.Len())
	}
	places := append([]int{0, 1, 2, 64, api.MaxInts}, extremes...)
	for _, a := range places {
		if p, n := f.Place(a); p != -1 || n != 0 || f.Before(a) != -1 {
			t.Errorf("at %d: %d, %d, %d", a, p, n, f.Before(a))
		}
		for _, b := range places {
			for _, c := range places {
				if x, y := f.Narrow(a, b, c); x != 0 || y != 0 {
					t.Errorf("Narrow(%d, %d, %d): %d, %d", a, b, c, x, y)
				}
			}
		}
	}
	for _, p := range [][]int{nil, {}, {0}, {1}, {-1}, {0, 0}, {0, 1, 2}, banana, extremes} {
		if a, b := f.Range(p); a != 0 || b != 0 || len(f.Places(p)) != 0 {
			t.Errorf("%v: %d, %d, %v", p, a, b, f.Places(p))
		}
	}
}

// What is handed in and out.

func TestTheListsAreLeftAsTheyAre(t *testing.T) {
	for _, l := range someLists() {
		for _, fill := range []int{0, 1, 99, -1, math.MaxInt} {
			k, sa, p := withRoom(l.t, fill), withRoom(orderOf(l.t), fill), withRoom(l.t[len(l.t)/2:], fill)
			wasK, wasSa, wasP := slices.Clone(k[:cap(k)]), slices.Clone(sa[:cap(sa)]), slices.Clone(p[:cap(p)])
			stays := func(call string) {
				t.Helper()
				if !slices.Equal(k[:cap(k)], wasK) || !slices.Equal(sa[:cap(sa)], wasSa) || !slices.Equal(p[:cap(p)], wasP) {
					t.Fatalf("%s: %s changed a list", l.name, call)
				}
			}
			f := made(t, list{l.name, k, l.alphabet}, sa, 3)
			stays("New")
			n := len(k)
			for _, call := range []struct {
				name string
				f    func()
			}{
				{"Len", func() { f.Len() }}, {"Narrow", func() { f.Narrow(0, n, k[0]) }}, {"Range", func() { f.Range(p) }}, {"Range of all", func() { f.Range(k) }}, {"Before", func() { f.Before(n / 2) }}, {"Place", func() { f.Place(n / 2) }}, {"Places", func() { f.Places(p) }}, {"Places of all", func() { f.Places(k) }},
			} {
				call.f()
				stays(call.name)
			}
			asked(t, l, orderOf(l.t), 3, f, spots(n), symbols(l), append(patterns(l), p))
			stays("a call")
			refused(t, k, sa, l.alphabet, 0)
			refused(t, k, sa, slices.Max(k), 3)
			refused(t, k, sa[:n-1], l.alphabet, 3)
			refused(t, k, sa, api.MaxInts, 3)
			stays("New that refused")
		}
	}
}

func TestListsThatAreRefusedAreLeftAsTheyAre(t *testing.T) {
	for _, x := range []struct{ t, sa []int }{{nil, []int{0}}, {[]int{1, 1}, []int{1, 0}}, {banana, rising(7)}, {banana, bananaOrder[:6]}, {banana, closed(bananaOrder, 7)}, {with(banana, 2, 9), bananaOrder}, {with(banana, 2, -9), bananaOrder}} {
		k, sa := withRoom(x.t, 5), withRoom(x.sa, 6)
		wasK, wasSa := slices.Clone(k[:cap(k)]), slices.Clone(sa[:cap(sa)])
		refused(t, k, sa, 4, 2)
		if !slices.Equal(k[:cap(k)], wasK) || !slices.Equal(sa[:cap(sa)], wasSa) {
			t.Errorf("%v by %v: changed", x.t, x.sa)
		}
	}
}

func TestTheFinderIsOfTheListsAsTheyWere(t *testing.T) {
	for _, l := range someLists() {
		want := orderOf(l.t)
		for _, step := range []int{1, 4, len(l.t)} {
			k, sa := withRoom(l.t, 1), withRoom(want, 2)
			f := made(t, list{l.name, k, l.alphabet}, sa, step)
			for _, x := range []int{0, 1, -1, math.MaxInt} {
				spoil(k, x)
				spoil(sa, x)
				asked(t, l, want, step, f, spots(len(l.t)), symbols(l), patterns(l))
			}
			_, _ = append(k, 5), append(sa, 6)
			asked(t, l, want, step, f, spots(len(l.t)), symbols(l), patterns(l))
		}
	}
}

func TestWhatIsAnsweredMayBeChanged(t *testing.T) {
	for _, l := range someLists() {
		sa := orderOf(l.t)
		for _, step := range []int{1, 4, len(l.t), api.MaxInts} {
			f := made(t, l, sa, step)
			for _, p := range [][]int{l.t[:1], l.t[len(l.t)/2:], l.t, nil, {-1}} {
				kept := f.Places(p)
				got := f.Places(p)
				spoil(got, -9)
				_ = append(f.Places(p), 7, 8)
				if !slices.Equal(kept, placesBy(l.t, p)) {
					t.Fatalf("%s: %v changed with another answer", l.name, kept)
				}
				asked(t, l, sa, step, f, spots(len(l.t)), symbols(l), [][]int{p, l.t, l.t[:1]})
			}
		}
	}
}

func TestOneListAsAll(t *testing.T) {
	// One list as t, sa and p: its numbers are its places.
	for n := 1; n < 9; n++ {
		l := withRoom(rising(n), n)
		for step := 1; step < n+2; step++ {
			f := made(t, list{"one list", l, n}, l, step)
			asked(t, list{"one list", rising(n), n}, rising(n), step, f, spots(n), rising(n+1), [][]int{l, l[:n-1], l[1:], l[n/2:]})
		}
	}
}

// Objects beside one another.

func TestFindersBesideOneAnother(t *testing.T) {
	all := append(someLists(), list{"more", closed(raised(scattered(70, 3, 51), 2), 1), 6})
	finders := make([]*Finder, len(all))
	for k, l := range all {
		finders[k] = made(t, l, orderOf(l.t), k+1)
	}
	for k, l := range slices.Backward(all) {
		refused(t, l.t, nil, l.alphabet, 1)
		asked(t, l, orderOf(l.t), k+1, finders[k], spots(len(l.t)), symbols(l), patterns(l))
	}
}

func TestAnswersDontHangOnThoseAhead(t *testing.T) {
	l := list{"many", closed(raised(scattered(120, 3, 61), 1), 0), 4}
	sa := orderOf(l.t)
	for _, step := range []int{1, 5, api.MaxInts} {
		f, other := made(t, l, sa, step), made(t, l, sa, step)
		for i := -1; i <= len(sa); i++ {
			other.Places(l.t[:1])
			other.Narrow(i, len(sa), 2)
			other.Range(l.t[max(i, 0):])
			place, goings := f.Place(i)
			if p, n := f.Place(i); p != place || n != goings {
				t.Fatalf("Place(%d): %d, %d, then %d, %d", i, place, goings, p, n)
			}
			if p, n := other.Place(i); p != place || n != goings || other.Before(i) != f.Before(i) {
				t.Fatalf("Place(%d): %d, %d, not %d, %d", i, p, n, place, goings)
			}
		}
		for range 2 {
			asked(t, l, sa, step, f, spots(len(sa)), symbols(l), patterns(l))
			asked(t, l, sa, step, other, spots(len(sa)), symbols(l), patterns(l))
		}
	}
}

// The layers below.

func TestTheOrderOfLayer9AndTheRowOfLayer11(t *testing.T) {
	for _, l := range append(someLists(), longLists()...) {
		sa, e := suffix.Array(l.t, l.alphabet)
		if e != api.OK || !slices.Equal(sa, orderOf(l.t)) {
			t.Fatalf("%s: %v, %v", l.name, few(sa), e)
		}
		row, e := bwt.Make(l.t, sa)
		if e != api.OK {
			t.Fatalf("%s: %v", l.name, e)
		}
		f := made(t, l, sa, 9)
		for i, c := range row {
			a, b := f.Narrow(i, i+1, c)
			if b != a+1 || a != f.Before(i) {
				t.Fatalf("%s: %v: Narrow(%d, %d, %d): %d, %d, and Before %d", l.name, few(l.t), i, i+1, c, a, b, f.Before(i))
			}
		}
	}
}

// The chapter's examples.

func TestExamples(t *testing.T) {
	sa, e := suffix.Array(banana, 4)
	if e != api.OK || !slices.Equal(sa, bananaOrder) {
		t.Fatalf("%v, %v", sa, e)
	}
	f := made(t, list{"banana", banana, 4}, sa, 2)
	if a, b := f.Range([]int{1, 3}); a != 2 || b != 4 {
		t.Errorf("Range(1 3): %d, %d", a, b)
	}
	if p := f.Places([]int{1, 3}); !slices.Equal(p, []int{1, 3}) {
		t.Errorf("Places(1 3): %v", p)
	}
	if a, b := f.Range([]int{0, 2}); a != 0 || b != 0 {
		t.Errorf("Range(0 2): %d, %d", a, b)
	}
}
