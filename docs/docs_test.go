package docs

import (
	"bytes"
	"math"
	"slices"
	"testing"

	"colophon/api"
	"colophon/suffix"
	"colophon/text"
)

// extremes are places of no list.
var extremes = []int{
	-1, -2, -3, -256, -65792, -api.MaxInts, math.MinInt32, math.MinInt, math.MinInt + 1,
	66000, 131072, api.MaxInts, api.MaxInts + 1, 1 << 24, math.MaxInt32, 1 << 32, 1<<32 + 1, math.MaxInt - 1, math.MaxInt,
}

// sample is documents by a name.
type sample struct {
	name string
	docs [][]byte
}

// row is numbers by a name.
type row struct {
	name string
	da   []int
}

// numbers answers n numbers by a rule.
func numbers(n int, rule func(i int) int) []int {
	l := make([]int, n)
	for i := range l {
		l[i] = rule(i)
	}
	return l
}

// rising answers the numbers below n.
func rising(n int) []int {
	return numbers(n, func(i int) int { return i })
}

// falling answers the numbers below n, the greatest first.
func falling(n int) []int {
	return numbers(n, func(i int) int { return n - 1 - i })
}

// scattered answers n numbers below bound that look like no rule.
func scattered(n, bound int, seed uint64) []int {
	x := seed
	return numbers(n, func(int) int {
		x = x*6364136223846793005 + 1442695040888963407
		return int((x >> 33) % uint64(bound))
	})
}

// shuffled answers the numbers below n in an order that looks like no rule.
func shuffled(n int, seed uint64) []int {
	l := rising(n)
	for i, x := range scattered(n, math.MaxInt32, seed) {
		k := x % (i + 1)
		l[i], l[k] = l[k], l[i]
	}
	return l
}

// again answers a part said so many times, with what stands behind.
func again(part []int, times int, behind ...int) []int {
	return append(slices.Repeat(part, times), behind...)
}

// of answers the numbers that stand at these places among those that can be.
func of(l []int, among ...int) []int {
	return numbers(len(l), func(i int) int { return among[l[i]] })
}

// with answers l with x at this place.
func with(l []int, at, x int) []int {
	k := slices.Clone(l)
	k[at] = x
	return k
}

// withRoom answers a list like l, with a spare room filled by fill.
func withRoom(l []int, fill int) []int {
	k := make([]int, len(l), len(l)+5)
	copy(k, l)
	spoil(k[len(k):cap(k)], fill)
	return k
}

// spoil lays x everywhere in l, its spare room too.
func spoil(l []int, x int) {
	l = l[:cap(l)]
	for i := range l {
		l[i] = x
	}
}

// every calls f with each list of n numbers below bound.
func every(n, bound int, f func(l []int)) {
	l := make([]int, n)
	if n > 0 && bound == 0 {
		return
	}
	for {
		f(l)
		i := 0
		for ; i < n && l[i] == bound-1; i++ {
			l[i] = 0
		}
		if i == n {
			return
		}
		l[i]++
	}
}

// isOrder tells whether l has each number below its length once.
func isOrder(l []int) bool {
	there := make([]bool, len(l))
	for _, x := range l {
		if x < 0 || x >= len(l) || there[x] {
			return false
		}
		there[x] = true
	}
	return true
}

// orders answers each order of the numbers below n.
func orders(n int) [][]int {
	var all [][]int
	every(n, n, func(l []int) {
		if isOrder(l) {
			all = append(all, slices.Clone(l))
		}
	})
	return all
}

// sayings answers documents of these texts.
func sayings(texts ...string) [][]byte {
	docs := [][]byte{}
	for _, s := range texts {
		docs = append(docs, []byte(s))
	}
	return docs
}

// many answers documents of these sizes.
func many(sizes ...int) [][]byte {
	docs := [][]byte{}
	for d, size := range sizes {
		b := make([]byte, size)
		for i, x := range scattered(size, 256, uint64(d)) {
			b[i] = byte(x)
		}
		docs = append(docs, b)
	}
	return docs
}

// even answers count documents, each of so many bytes.
func even(count, size int) [][]byte {
	return many(slices.Repeat([]int{size}, count)...)
}

// small answers collections of few bytes.
func small() []sample {
	return []sample{
		{"no documents", nil}, {"an empty list of documents", [][]byte{}},
		{"one document", sayings("banana")}, {"one of one byte", sayings("a")}, {"one of bytes 0", [][]byte{make([]byte, 9)}}, {"one of bytes 255", [][]byte{bytes.Repeat([]byte{255}, 9)}},
		{"one empty", sayings("")}, {"one nil", [][]byte{nil}}, {"two empty", sayings("", "")}, {"five empty or nil", [][]byte{nil, {}, nil, {}, {}}},
		{"two documents", sayings("ab", "b")}, {"three documents", sayings("banana", "ananas", "nab")},
		{"empty first", sayings("", "ab", "b")}, {"empty in the middle", sayings("ab", "", "b")}, {"empty last", sayings("ab", "b", "")}, {"two empty in the middle", sayings("ab", "", "", "b")}, {"empty everywhere", sayings("", "ab", "", "b", "")},
		{"alike", sayings("ab", "ab")}, {"alike and not", sayings("ab", "b", "ab", "", "b", "ab")}, {"alike of one byte", sayings("a", "a", "a", "a")}, {"beginnings of one another", sayings("abc", "ab", "a", "", "a", "ab", "abc")},
		{"bytes like ends", [][]byte{{0, 1, 2}, {2, 1, 0}, {1}}}, {"bytes 0 and 255", [][]byte{{0, 255}, {255, 0}, {255, 255, 0, 0}}},
		{"rising sizes", many(0, 1, 2, 3, 4, 5, 6, 7, 8, 9)}, {"falling sizes", many(300, 200, 100, 50, 20, 7, 3, 1, 0)},
		{"255 documents", even(255, 3)}, {"256 documents", even(256, 3)}, {"256 of one byte", even(256, 1)}, {"255 empty", even(255, 0)}, {"256 empty", even(256, 0)}, {"256 alike", slices.Repeat(sayings("ab"), 256)},
		{"the first of 256", append(many(9), even(255, 0)...)}, {"the last of 256", append(even(255, 0), many(9)...)},
	}
}

// great answers collections of as many documents or bytes as may be.
func great() []sample {
	return []sample{
		{"65536 bytes", many(65536)}, {"65536 bytes alike", [][]byte{make([]byte, 65536)}}, {"65535 bytes and one", many(65535, 1)}, {"one and 65535 bytes", many(1, 65535)}, {"65536 bytes among empty ones", many(0, 65536, 0)},
		{"65536 bytes in 256", even(256, 256)}, {"65536 bytes in 256 alike", slices.Repeat(even(1, 256), 256)}, {"65536 bytes in the first of 256", append(many(65536), even(255, 0)...)}, {"65536 bytes in the last of 256", append(even(255, 0), many(65536)...)},
	}
}

// made answers the collection of these documents.
func made(t *testing.T, docs [][]byte) *text.Text {
	t.Helper()
	x, e := text.New(docs...)
	if e != api.OK {
		t.Fatalf("a collection of %d documents: %v", len(docs), e)
	}
	return x
}

// owners answers of each place of the symbols of these documents the document, each one's end behind its bytes.
func owners(docs [][]byte) []int {
	l := []int{}
	for d, b := range docs {
		l = append(l, slices.Repeat([]int{d}, len(b)+1)...)
	}
	return l
}

// sorted answers the places of a collection's symbols in the order of their suffixes.
func sorted(t *testing.T, x *text.Text) []int {
	t.Helper()
	sa, e := suffix.Array(x.Symbols(), x.Alphabet())
	if e != api.OK {
		t.Fatalf("the order of the suffixes: %v", e)
	}
	return sa
}

// ordersOf answers some orders of the places of a collection's symbols, the suffixes' own one first.
func ordersOf(t *testing.T, x *text.Text) [][]int {
	t.Helper()
	n := x.Len()
	sa := sorted(t, x)
	back := slices.Clone(sa)
	slices.Reverse(back)
	return [][]int{sa, back, rising(n), falling(n), shuffled(n, 1), shuffled(n, 2)}
}

// arrayBy answers by the chapter's words what Array does of each place once, by the documents that own them.
func arrayBy(owner, sa []int) []int {
	return numbers(len(sa), func(i int) int { return owner[sa[i]] })
}

// backBy answers by the chapter's words what Back does.
func backBy(da []int) []int {
	return numbers(len(da), func(i int) int {
		for k := i - 1; k >= 0; k-- {
			if da[k] == da[i] {
				return k
			}
		}
		return -1
	})
}

// aheadBy answers by the chapter's words what Ahead does.
func aheadBy(da []int) []int {
	return numbers(len(da), func(i int) int {
		for k := i + 1; k < len(da); k++ {
			if da[k] == da[i] {
				return k
			}
		}
		return len(da)
	})
}

// countBy answers by the chapter's words what Count does: of a below 0 and b above the length no place is there.
func countBy(da []int, d, a, b int) int {
	n := 0
	for i, x := range da {
		if i >= a && i < b && x == d {
			n++
		}
	}
	return n
}

// checkArray holds what Array answers of each place once against the chapter's words.
func checkArray(t *testing.T, name string, x *text.Text, owner, sa []int) {
	t.Helper()
	da, e := Array(x, sa)
	if want := arrayBy(owner, sa); e != api.OK || !slices.Equal(da, want) {
		if len(sa) > 50 {
			t.Fatalf("%s: %d numbers of %d, %v", name, len(da), len(sa), e)
		}
		t.Fatalf("%s: by %v: %v, %v, not %v", name, sa, da, e, want)
	}
}

// refused holds that Array refuses these places with this error.
func refused(t *testing.T, name string, x *text.Text, sa []int, why api.Errno) {
	t.Helper()
	if da, e := Array(x, sa); e != why || len(da) != 0 {
		t.Errorf("%s: by %d places: %d numbers, %v, not %v", name, len(sa), len(da), e, why)
	}
}

// checkBoth holds what Back and Ahead answer against the chapter's words.
func checkBoth(t *testing.T, name string, da []int) {
	t.Helper()
	if got, want := Back(da), backBy(da); !slices.Equal(got, want) {
		t.Fatalf("%s: Back of %v: %v, not %v", name, da, got, want)
	}
	if got, want := Ahead(da), aheadBy(da); !slices.Equal(got, want) {
		t.Fatalf("%s: Ahead of %v: %v, not %v", name, da, got, want)
	}
}

// checkCount holds Count of these numbers from all places to all, and around, against the chapter's words.
func checkCount(t *testing.T, name string, da []int, ds ...int) {
	t.Helper()
	for _, d := range ds {
		for a := -2; a < len(da)+3; a++ {
			for b := -2; b < len(da)+3; b++ {
				if got, want := Count(da, d, a, b), countBy(da, d, a, b); got != want {
					t.Fatalf("%s: %v: %d from %d ahead of %d: %d, not %d", name, da, d, a, b, got, want)
				}
			}
		}
	}
}

// rows answers numbers of all kinds that the chapter tells apart.
func rows() []row {
	least, greatest := math.MinInt, math.MaxInt
	return []row{
		{"nil", nil}, {"empty", []int{}}, {"empty with room", make([]int, 0, 9)},
		{"a nought", []int{0}}, {"one", []int{1}}, {"one below nought", []int{-1}}, {"the least one", []int{least}}, {"the greatest one", []int{greatest}},
		{"two alike", []int{3, 3}}, {"two unlike", []int{3, 4}}, {"the least and the greatest", []int{least, greatest}}, {"the greatest and the least", []int{greatest, least, least, greatest}},
		{"noughts", make([]int, 40)}, {"all alike", again([]int{7}, 41)}, {"all -1", again([]int{-1}, 33)}, {"all the least", again([]int{least}, 32)}, {"all the greatest", again([]int{greatest}, 31)}, {"all as the length", again([]int{30}, 30)},
		{"rising", rising(40)}, {"falling", falling(40)}, {"all unlike", shuffled(40, 3)}, {"all below nought", numbers(40, func(i int) int { return -1 - i })}, {"far apart", numbers(40, func(i int) int { return (i - 20) * (greatest / 20) })},
		{"like in their lower bits", numbers(40, func(i int) int { return i%20<<32 | 5 })}, {"like in their upper bits", numbers(40, func(i int) int { return least | i%7 })}, {"a number and its other side", of(again([]int{0, 1, 2, 3}, 9), 1, -1, greatest, -greatest)},
		{"ab again", again([]int{0, 1}, 20)}, {"ab again and a", again([]int{0, 1}, 20, 0)}, {"aabb again", again([]int{2, 2, 1, 1}, 9)}, {"once among others", with(again([]int{4}, 40), 17, 5)}, {"first and last", with(with(rising(40), 39, 0), 0, 0)},
		{"to the middle and back", slices.Concat(rising(20), falling(20))}, {"rising twice", again(rising(20), 2)}, {"extremes", again(extremes, 3)}, {"extremes once", slices.Clone(extremes)},
		{"two scattered", scattered(150, 2, 1)}, {"three scattered", of(scattered(150, 3, 2), least, -1, greatest)}, {"many scattered", scattered(150, 40, 3)}, {"256 scattered", scattered(700, 256, 4)}, {"great scattered", scattered(150, math.MaxInt32, 5)},
	}
}

// P12.1

func TestArrayWrittenOut(t *testing.T) {
	for _, x := range []struct {
		docs     [][]byte
		sa, want []int
	}{
		{nil, nil, nil}, {nil, []int{}, nil}, {[][]byte{}, make([]int, 0, 4), nil},
		{sayings(""), []int{0}, []int{0}}, {sayings("", ""), []int{0, 1}, []int{0, 1}}, {sayings("", ""), []int{1, 0}, []int{1, 0}}, {sayings("", "", ""), []int{2, 0, 1}, []int{2, 0, 1}},
		{sayings("a"), []int{1, 0}, []int{0, 0}}, {sayings("a"), []int{0, 1}, []int{0, 0}}, {sayings("banana"), []int{6, 5, 3, 1, 0, 4, 2}, []int{0, 0, 0, 0, 0, 0, 0}},
		{sayings("ab", "b"), []int{2, 4, 0, 1, 3}, []int{0, 1, 0, 0, 1}}, {sayings("ab", "b"), []int{0, 1, 2, 3, 4}, []int{0, 0, 0, 1, 1}}, {sayings("ab", "b"), []int{4, 3, 2, 1, 0}, []int{1, 1, 0, 0, 0}}, {sayings("ab", "b"), []int{3, 0, 4, 2, 1}, []int{1, 0, 1, 0, 0}},
		{sayings("ab", "", "b"), []int{2, 3, 5, 0, 1, 4}, []int{0, 1, 2, 0, 0, 2}}, {sayings("", "ab"), []int{0, 3, 1, 2}, []int{0, 1, 1, 1}}, {sayings("ab", ""), []int{2, 3, 0, 1}, []int{0, 1, 0, 0}},
		{sayings("banana", "ananas", "nab"), []int{6, 13, 17, 5, 15, 3, 1, 7, 9, 11, 16, 0, 4, 14, 2, 8, 10, 12}, []int{0, 1, 2, 0, 2, 0, 0, 1, 1, 1, 2, 0, 0, 2, 0, 1, 1, 1}},
	} {
		if da, e := Array(made(t, x.docs), x.sa); e != api.OK || !slices.Equal(da, x.want) {
			t.Errorf("%q by %v: %v, %v, not %v", x.docs, x.sa, da, e, x.want)
		}
	}
}

func TestArrayOfNoCollection(t *testing.T) {
	var none *text.Text
	for range 2 {
		for _, sa := range [][]int{nil, {}, make([]int, 0, 5), {0}, {0, 1}, {1, 0}, {5, 3, 1, 0, 4, 2}, {0, 0}, {-1}, {7}, {math.MinInt}, {math.MaxInt}, rising(300), make([]int, 300)} {
			refused(t, "nil", nil, sa, api.ErrNil)
			refused(t, "nil", none, sa, api.ErrNil)
		}
	}
	tooMany, _ := text.New(even(257, 0)...)
	refused(t, "of 257 documents", tooMany, nil, api.ErrNil)
}

func TestArrayOfSmallCollections(t *testing.T) {
	for _, s := range small() {
		x := made(t, s.docs)
		for _, sa := range ordersOf(t, x) {
			checkArray(t, s.name, x, owners(s.docs), sa)
		}
	}
}

func TestArrayOfGreatCollections(t *testing.T) {
	for _, s := range great() {
		x := made(t, s.docs)
		owner := owners(s.docs)
		for _, sa := range ordersOf(t, x) {
			checkArray(t, s.name, x, owner, sa)
		}
		n := x.Len()
		for _, at := range []int{0, n / 2, n - 1} {
			for _, p := range []int{-1, n, (at + 1) % n} {
				refused(t, s.name, x, with(rising(n), at, p), api.ErrArg)
			}
		}
		refused(t, s.name, x, rising(n-1), api.ErrArg)
		refused(t, s.name, x, rising(n+1), api.ErrArg)
	}
}

// splits calls f with all documents of so many symbols in all.
func splits(symbols int, f func(docs [][]byte)) {
	if symbols == 0 {
		f(nil)
		return
	}
	// Behind each symbol but the last one a document ends, or none does.
	every(symbols-1, 2, func(ends []int) {
		docs := [][]byte{{}}
		for i, end := range ends {
			last := len(docs) - 1
			if end == 1 {
				docs = append(docs, []byte{})
			} else {
				docs[last] = append(docs[last], byte('a'+i%2))
			}
		}
		f(docs)
	})
}

func TestArrayOfEveryShortCollectionInEveryOrder(t *testing.T) {
	for n := range 7 {
		all := orders(n)
		splits(n, func(docs [][]byte) {
			x, owner := made(t, docs), owners(docs)
			for _, sa := range all {
				checkArray(t, "short", x, owner, sa)
			}
		})
	}
}

func TestArrayOfShortListsOutsideEachOrder(t *testing.T) {
	for n := range 6 {
		splits(n, func(docs [][]byte) {
			x, owner := made(t, docs), owners(docs)
			for length := range n + 2 {
				if length > 5 {
					break
				}
				every(length, n+3, func(places []int) {
					sa := numbers(length, func(i int) int { return places[i] - 1 }) // from -1 to one more than the number of symbols
					if length == n && isOrder(sa) {
						checkArray(t, "each place once", x, owner, sa)
					} else {
						refused(t, "not each place once", x, sa, api.ErrArg)
					}
				})
			}
		})
	}
}

func TestArrayRefusesOtherPlaces(t *testing.T) {
	for _, s := range small() {
		x := made(t, s.docs)
		n := x.Len()
		if n == 0 {
			continue
		}
		for _, sa := range ordersOf(t, x) {
			for _, at := range []int{0, n / 2, n - 1} {
				for _, p := range append([]int{n, n + 1, -n, (sa[at] + 1) % n, (sa[at] + n - 1) % n}, extremes...) {
					if p != sa[at] {
						refused(t, s.name, x, with(sa, at, p), api.ErrArg)
					}
				}
			}
		}
		for _, p := range append([]int{0, n - 1, n}, extremes...) {
			if n > 1 || p != 0 {
				refused(t, s.name, x, again([]int{p}, n), api.ErrArg)
			}
		}
		refused(t, s.name, x, numbers(n, func(i int) int { return i + 1 }), api.ErrArg)
		refused(t, s.name, x, numbers(n, func(i int) int { return i - 1 }), api.ErrArg)
	}
}

func TestArrayRefusesOtherLengths(t *testing.T) {
	for _, s := range small() {
		x := made(t, s.docs)
		n := x.Len()
		for _, length := range []int{0, 1, 2, n / 2, n - 2, n - 1, n + 1, n + 2, 2*n + 1, n + 256, n + 1000} {
			if length >= 0 && length != n {
				refused(t, s.name, x, rising(length), api.ErrArg)
				refused(t, s.name, x, falling(length), api.ErrArg)
				refused(t, s.name, x, make([]int, length), api.ErrArg)
			}
		}
		sa := sorted(t, x)
		if n > 0 {
			refused(t, s.name, x, nil, api.ErrArg)
			refused(t, s.name, x, sa[1:], api.ErrArg)
			refused(t, s.name, x, sa[:n-1], api.ErrArg)
			refused(t, s.name, x, again(sa, 2), api.ErrArg)
		}
		for _, p := range append([]int{0, n - 1, n, n + 1}, extremes...) {
			refused(t, s.name, x, append(slices.Clone(sa), p), api.ErrArg)
			refused(t, s.name, x, append([]int{p}, sa...), api.ErrArg)
		}
		// What stands in the spare room is no place of the list.
		room := append(slices.Clone(sa), n, n+1, 0)
		checkArray(t, s.name, x, owners(s.docs), room[:n])
		refused(t, s.name, x, room[:n+1], api.ErrArg)
		if n > 0 {
			refused(t, s.name, x, room[:n-1], api.ErrArg)
		}
	}
	refused(t, "as many as MaxInts", made(t, even(256, 256)), rising(api.MaxInts), api.ErrArg)
	refused(t, "one more than MaxInts", made(t, sayings("ab", "b")), rising(api.MaxInts+1), api.ErrArg)
}

func TestArrayHangsOnPlacesAlone(t *testing.T) {
	// As long as the documents are as long, their bytes turn nothing.
	for _, sa := range orders(6) {
		want, _ := Array(made(t, sayings("ab", "", "c")), sa)
		for _, docs := range [][][]byte{sayings("ba", "", "a"), {{0, 0}, nil, {0}}, {{255, 254}, {}, {255}}} {
			if da, e := Array(made(t, docs), sa); e != api.OK || !slices.Equal(da, want) {
				t.Fatalf("%q by %v: %v, %v, not %v", docs, sa, da, e, want)
			}
		}
	}
}

func TestArrayHasEachDocument(t *testing.T) {
	for _, s := range slices.Concat(small(), great()) {
		x := made(t, s.docs)
		da, e := Array(x, sorted(t, x))
		if e != api.OK || len(da) != x.Len() {
			t.Fatalf("%s: %d numbers, %v", s.name, len(da), e)
		}
		for d, b := range s.docs {
			if n := Count(da, d, 0, len(da)); n != len(b)+1 {
				t.Fatalf("%s: document %d, of %d bytes, is there %d times", s.name, d, len(b), n)
			}
			// The ends are the least symbols, so theirs are the first suffixes, as the documents rise.
			if da[d] != d {
				t.Fatalf("%s: the end of document %d is of document %d", s.name, d, da[d])
			}
		}
	}
}

// checkCollection holds that a collection answers as one that was just made of these documents.
func checkCollection(t *testing.T, name string, x *text.Text, docs [][]byte) {
	t.Helper()
	y := made(t, docs)
	if x.Docs() != y.Docs() || x.Len() != y.Len() || x.Alphabet() != y.Alphabet() || !slices.Equal(x.Symbols(), y.Symbols()) {
		t.Fatalf("%s: the collection changed", name)
	}
	for d := -1; d <= len(docs)+1; d++ {
		if x.Start(d) != y.Start(d) || !bytes.Equal(x.Bytes(d), y.Bytes(d)) {
			t.Fatalf("%s: document %d changed", name, d)
		}
	}
	for p := -1; p <= y.Len(); p++ {
		a, b := x.Doc(p)
		if c, d := y.Doc(p); a != c || b != d {
			t.Fatalf("%s: place %d changed", name, p)
		}
	}
}

func TestArrayLeavesItsListAndCollection(t *testing.T) {
	for _, s := range small() {
		x := made(t, s.docs)
		n := x.Len()
		for _, places := range append(ordersOf(t, x), rising(n+1), make([]int, n+2), append(rising(n), -1), numbers(n, func(i int) int { return i - 1 })) {
			sa := withRoom(places, 77)
			was := slices.Clone(sa[:cap(sa)])
			da, e := Array(x, sa)
			if !slices.Equal(sa[:cap(sa)], was) {
				t.Fatalf("%s: the list changed", s.name)
			}
			kept := slices.Clone(da)
			spoil(sa, 0)
			if !slices.Equal(da, kept) {
				t.Fatalf("%s: what is answered hangs on the list", s.name)
			}
			copy(sa[:cap(sa)], was)
			spoil(da, -9)
			if !slices.Equal(sa[:cap(sa)], was) {
				t.Fatalf("%s: the list hangs on what is answered", s.name)
			}
			once, f := Array(x, sa)
			if f != e || !slices.Equal(once, kept) {
				t.Fatalf("%s: once more: %d numbers, %v, not %d, %v", s.name, len(once), f, len(kept), e)
			}
			spoil(da, 3)
			_ = append(da, 4, 5)
			if !slices.Equal(once, kept) {
				t.Fatalf("%s: two answers share something", s.name)
			}
		}
		checkCollection(t, s.name, x, s.docs)
	}
}

func TestArrayOfCollectionsBesideOneAnother(t *testing.T) {
	first, second := made(t, sayings("ab", "b")), made(t, sayings("", "", "a", ""))
	sa := []int{4, 2, 0, 3, 1}
	for range 3 {
		checkArray(t, "first", first, []int{0, 0, 0, 1, 1}, sa)
		checkArray(t, "second", second, []int{0, 1, 2, 2, 3}, sa)
		refused(t, "first", first, []int{0, 1, 2, 3, 3}, api.ErrArg)
		refused(t, "nil", nil, sa, api.ErrNil)
	}
}

// P12.2

func TestBackAndAheadWrittenOut(t *testing.T) {
	least, greatest := math.MinInt, math.MaxInt
	for _, x := range []struct{ da, back, ahead []int }{
		{nil, nil, nil}, {[]int{}, nil, nil}, {make([]int, 0, 3), nil, nil},
		{[]int{0}, []int{-1}, []int{1}}, {[]int{9}, []int{-1}, []int{1}}, {[]int{-1}, []int{-1}, []int{1}}, {[]int{least}, []int{-1}, []int{1}}, {[]int{greatest}, []int{-1}, []int{1}},
		{[]int{0, 0}, []int{-1, 0}, []int{1, 2}}, {[]int{0, 1}, []int{-1, -1}, []int{2, 2}}, {[]int{1, 0}, []int{-1, -1}, []int{2, 2}}, {[]int{least, greatest}, []int{-1, -1}, []int{2, 2}}, {[]int{greatest, greatest}, []int{-1, 0}, []int{1, 2}}, {[]int{-1, 1}, []int{-1, -1}, []int{2, 2}},
		{[]int{5, 5, 5, 5}, []int{-1, 0, 1, 2}, []int{1, 2, 3, 4}}, {[]int{0, 1, 2, 3}, []int{-1, -1, -1, -1}, []int{4, 4, 4, 4}}, {[]int{3, 2, 1, 0}, []int{-1, -1, -1, -1}, []int{4, 4, 4, 4}},
		{[]int{0, 1, 0, 1}, []int{-1, -1, 0, 1}, []int{2, 3, 4, 4}}, {[]int{0, 1, 1, 0}, []int{-1, -1, 1, 0}, []int{3, 2, 4, 4}}, {[]int{7, 8, 9, 7}, []int{-1, -1, -1, 0}, []int{3, 4, 4, 4}}, {[]int{7, 7, 9, 7}, []int{-1, 0, -1, 1}, []int{1, 3, 4, 4}},
		{[]int{least, 0, greatest, 0, least, -1}, []int{-1, -1, -1, 1, 0, -1}, []int{4, 3, 6, 6, 6, 6}}, {[]int{-1, 1, -1, 1, -1}, []int{-1, -1, 0, 1, 2}, []int{2, 3, 4, 5, 5}}, {[]int{5, 5, 4, 3, 5}, []int{-1, 0, -1, -1, 1}, []int{1, 4, 5, 5, 5}},
		{[]int{0, 1, 0, 0, 1}, []int{-1, -1, 0, 2, 1}, []int{2, 4, 3, 5, 5}}, {[]int{2, 0, 2, 2, 1}, []int{-1, -1, 0, 2, -1}, []int{2, 5, 3, 5, 5}},
	} {
		if got := Back(x.da); !slices.Equal(got, x.back) {
			t.Errorf("Back of %v: %v, not %v", x.da, got, x.back)
		}
		if got := Ahead(x.da); !slices.Equal(got, x.ahead) {
			t.Errorf("Ahead of %v: %v, not %v", x.da, got, x.ahead)
		}
	}
}

func TestBackAndAheadOfRows(t *testing.T) {
	for _, r := range rows() {
		checkBoth(t, r.name, r.da)
	}
}

func TestBackAndAheadOfEveryShortRow(t *testing.T) {
	for _, x := range []struct{ n, bound int }{{0, 1}, {1, 6}, {2, 6}, {3, 6}, {4, 6}, {5, 6}, {6, 6}, {7, 4}, {8, 3}, {10, 2}} {
		every(x.n, x.bound, func(da []int) {
			checkBoth(t, "short", da)
			checkBoth(t, "short, of extremes", of(da, math.MaxInt, -1, math.MinInt, x.n, 0, math.MaxInt-1))
		})
	}
}

func TestBackAndAheadOfLongerRows(t *testing.T) {
	for _, n := range []int{7, 8, 9, 15, 16, 17, 255, 256, 257, 1000} {
		for _, bound := range []int{1, 2, 3, 16, 256, math.MaxInt32} {
			checkBoth(t, "scattered", scattered(n, bound, uint64(n+bound)))
			checkBoth(t, "scattered, below nought", numbers(n, func(i int) int { return -i * i % bound }))
		}
		checkBoth(t, "shuffled", shuffled(n, uint64(n)))
		checkBoth(t, "shuffled twice", append(shuffled(n, 1), shuffled(n, 2)...))
	}
}

// checkLong holds what Back and Ahead answer of many numbers against rules of what they are at i.
func checkLong(t *testing.T, name string, da []int, back, ahead func(i int) int) {
	t.Helper()
	b, a := Back(da), Ahead(da)
	if len(b) != len(da) || len(a) != len(da) {
		t.Fatalf("%s: %d and %d numbers of %d", name, len(b), len(a), len(da))
	}
	for i := range da {
		if b[i] != back(i) || a[i] != ahead(i) {
			t.Fatalf("%s: %d: %d and %d, not %d and %d", name, i, b[i], a[i], back(i), ahead(i))
		}
	}
}

func TestBackAndAheadHaveNoBoundOfTheirOwn(t *testing.T) {
	const n = api.MaxInts + 1
	checkLong(t, "alike", again([]int{math.MinInt}, n), func(i int) int { return i - 1 }, func(i int) int { return i + 1 })
	checkLong(t, "unlike", numbers(n, func(i int) int { return (n/2 - i) << 20 }), func(int) int { return -1 }, func(int) int { return n })
	checkLong(t, "256 again", numbers(n, func(i int) int { return i % 256 }), func(i int) int { return max(i-256, -1) }, func(i int) int { return min(i+256, n) })
	// Each but the middle one is there twice, as far from the first as from the last.
	there := func(i int, here bool, none int) int {
		if here {
			return n - 1 - i
		}
		return none
	}
	checkLong(t, "to the middle and back", numbers(n, func(i int) int { return min(i, n-1-i) - 99 }),
		func(i int) int { return there(i, i > n-1-i, -1) }, func(i int) int { return there(i, i < n-1-i, n) })
}

// checkLinks holds that Back and Ahead lead to one another, and that they pass nobody by.
func checkLinks(t *testing.T, name string, da []int) {
	t.Helper()
	back, ahead := Back(da), Ahead(da)
	firsts, lasts := 0, 0
	unlike := map[int]bool{}
	for i, d := range da {
		unlike[d] = true
		if k := back[i]; k == -1 {
			firsts++
		} else if k < 0 || k >= i || da[k] != d || ahead[k] != i {
			t.Fatalf("%s: Back of %d: %d", name, i, k)
		}
		if k := ahead[i]; k == len(da) {
			lasts++
		} else if k <= i || k > len(da) || da[k] != d || back[k] != i {
			t.Fatalf("%s: Ahead of %d: %d", name, i, k)
		}
	}
	if firsts != len(unlike) || lasts != len(unlike) {
		t.Fatalf("%s: %d firsts and %d lasts of %d unlike ones", name, firsts, lasts, len(unlike))
	}
}

func TestBackAndAheadLeadToOneAnother(t *testing.T) {
	for _, r := range rows() {
		checkLinks(t, r.name, r.da)
	}
	for n := range 7 {
		every(n, max(n, 1), func(da []int) { checkLinks(t, "short", da) })
	}
	for _, s := range slices.Concat(small(), great()) {
		x := made(t, s.docs)
		for _, sa := range ordersOf(t, x) {
			da, e := Array(x, sa)
			if e != api.OK {
				t.Fatalf("%s: %v", s.name, e)
			}
			checkLinks(t, s.name, da)
		}
	}
	checkLinks(t, "many", scattered(1<<20, 1<<18, 7))
}

func TestAheadIsBackOfTheTurnedRow(t *testing.T) {
	for _, r := range rows() {
		n := len(r.da)
		turned := slices.Clone(r.da)
		slices.Reverse(turned)
		back, ahead := Back(turned), Ahead(r.da)
		for i := range n {
			if ahead[i] != n-1-back[n-1-i] {
				t.Fatalf("%s: %d: %d and %d", r.name, i, ahead[i], back[n-1-i])
			}
		}
	}
}

func TestBackAndAheadHangOnLikenessAlone(t *testing.T) {
	for _, r := range rows() {
		names := map[int]int{}
		named := numbers(len(r.da), func(i int) int {
			if _, ok := names[r.da[i]]; !ok {
				names[r.da[i]] = len(names)
			}
			return names[r.da[i]]
		})
		if !slices.Equal(Back(r.da), Back(named)) || !slices.Equal(Ahead(r.da), Ahead(named)) {
			t.Errorf("%s: others by other names", r.name)
		}
	}
}

func TestBackAndAheadLeaveTheirRow(t *testing.T) {
	for _, call := range []func([]int) []int{Back, Ahead} {
		for _, r := range rows() {
			for _, fill := range []int{0, 7, -1, math.MaxInt} {
				da := withRoom(r.da, fill)
				was := slices.Clone(da[:cap(da)])
				got := call(da)
				if !slices.Equal(da[:cap(da)], was) {
					t.Fatalf("%s: changed", r.name)
				}
				kept := call(r.da)
				spoil(da, 0)
				if !slices.Equal(got, kept) {
					t.Fatalf("%s: what is answered hangs on the row", r.name)
				}
				copy(da[:cap(da)], was)
				spoil(got, -9)
				if !slices.Equal(da[:cap(da)], was) {
					t.Fatalf("%s: the row hangs on what is answered", r.name)
				}
				if !slices.Equal(call(da), kept) {
					t.Fatalf("%s: another answer once more", r.name)
				}
			}
		}
	}
}

func TestBackAndAheadShareNothing(t *testing.T) {
	for _, r := range rows() {
		back, ahead := backBy(r.da), aheadBy(r.da)
		answers := [][]int{Back(r.da), Ahead(r.da), Back(r.da), Ahead(r.da)}
		for i, l := range answers {
			spoil(l, 5)
			_ = append(l, 6, 7)
			for k := i + 1; k < len(answers); k++ {
				if !slices.Equal(answers[k], [][]int{back, ahead}[k%2]) {
					t.Fatalf("%s: answer %d changed with answer %d", r.name, k, i)
				}
			}
		}
	}
}

// P12.3

func TestCountWrittenOut(t *testing.T) {
	least, greatest := math.MinInt, math.MaxInt
	da := []int{0, 1, 0, 0, 1}
	for _, x := range []struct {
		da            []int
		d, a, b, want int
	}{
		{da, 0, 0, 5, 3}, {da, 1, 0, 5, 2}, {da, 2, 0, 5, 0}, {da, -1, 0, 5, 0}, {da, 5, 0, 5, 0}, {da, least, 0, 5, 0}, {da, greatest, 0, 5, 0},
		{da, 0, 0, 1, 1}, {da, 0, 1, 2, 0}, {da, 0, 1, 3, 1}, {da, 0, 2, 4, 2}, {da, 1, 1, 4, 1}, {da, 1, 1, 5, 2}, {da, 1, 2, 4, 0}, {da, 1, 4, 5, 1}, {da, 0, 4, 5, 0},
		{da, 0, 0, 0, 0}, {da, 0, 2, 2, 0}, {da, 1, 4, 4, 0}, {da, 0, 5, 5, 0}, {da, 0, 3, 2, 0}, {da, 0, 5, 0, 0}, {da, 1, 4, 1, 0}, {da, 0, 1, 0, 0},
		{da, 0, -1, 5, 3}, {da, 0, -5, 99, 3}, {da, 0, least, greatest, 3}, {da, 1, least, greatest, 2}, {da, 0, least, 1, 1}, {da, 0, -3, 0, 0}, {da, 0, -3, -1, 0}, {da, 0, -1, -1, 0}, {da, 0, -1, 1, 1}, {da, 0, 0, -1, 0}, {da, 0, 0, least, 0}, {da, 0, least, least, 0}, {da, 0, least, -1, 0},
		{da, 1, 4, 6, 1}, {da, 1, 4, greatest, 1}, {da, 1, 5, 6, 0}, {da, 1, 5, greatest, 0}, {da, 1, 6, 9, 0}, {da, 1, 6, 5, 0}, {da, 0, greatest, greatest, 0}, {da, 0, greatest, 5, 0}, {da, 0, greatest, least, 0}, {da, 0, greatest - 1, greatest, 0},
		{nil, 0, 0, 0, 0}, {nil, 0, 0, 1, 0}, {nil, 0, -1, 1, 0}, {nil, 0, least, greatest, 0}, {[]int{}, 0, 0, 0, 0}, {[]int{}, 0, -1, 1, 0}, {[]int{}, 0, 1, -1, 0}, {make([]int, 0, 5), 0, 0, 5, 0},
		{[]int{4}, 4, 0, 1, 1}, {[]int{4}, 4, -1, 9, 1}, {[]int{4}, 4, 1, 1, 0}, {[]int{4}, 4, 0, 0, 0}, {[]int{4}, 3, 0, 1, 0},
		{[]int{6, 6, 6, 6}, 6, 0, 4, 4}, {[]int{6, 6, 6, 6}, 6, 1, 3, 2}, {[]int{6, 6, 6, 6}, 6, -9, 3, 3}, {[]int{6, 6, 6, 6}, 6, 1, 9, 3}, {[]int{6, 6, 6, 6}, 6, 3, 1, 0},
		{[]int{least, greatest, -1, least}, least, 0, 4, 2}, {[]int{least, greatest, -1, least}, greatest, 0, 4, 1}, {[]int{least, greatest, -1, least}, -1, 2, 3, 1}, {[]int{least, greatest, -1, least}, 0, 0, 4, 0}, {[]int{1 << 32, 0}, 0, 0, 2, 1},
	} {
		if got := Count(x.da, x.d, x.a, x.b); got != x.want {
			t.Errorf("%v: %d from %d ahead of %d: %d, not %d", x.da, x.d, x.a, x.b, got, x.want)
		}
	}
}

func TestCountOfRows(t *testing.T) {
	for _, r := range rows() {
		ds := append([]int{0, 1, len(r.da)}, extremes...)
		if len(r.da) > 50 {
			ds = []int{-1, 0, 1, math.MinInt, math.MaxInt}
		}
		if len(r.da) > 200 {
			ds = []int{0, 255}
		}
		if n := len(r.da); n > 0 {
			ds = append(ds, r.da[0], r.da[n/2], r.da[n-1])
		}
		checkCount(t, r.name, r.da, ds...)
	}
}

func TestCountOfEveryShortRow(t *testing.T) {
	for _, x := range []struct{ n, bound int }{{0, 1}, {1, 3}, {2, 4}, {3, 4}, {4, 4}, {5, 3}, {6, 3}, {7, 2}, {8, 2}} {
		every(x.n, x.bound, func(da []int) {
			checkCount(t, "short", da, append(rising(x.bound+1), -1)...)
			among := []int{math.MinInt, math.MaxInt, -1, 1}
			checkCount(t, "short, of extremes", of(da, among...), append(among, 0)...)
		})
	}
}

func TestCountFromAndToAnywhere(t *testing.T) {
	for _, da := range [][]int{nil, {}, {0}, {3, 3}, {0, 1, 0, 0, 1}, make([]int, 100), again([]int{-1}, 60), scattered(300, 4, 1)} {
		places := append([]int{0, 1, len(da) / 2, len(da) - 1, len(da), len(da) + 1, -len(da), -len(da) - 1}, extremes...)
		for _, d := range []int{-1, 0, 1, 3, math.MinInt, math.MaxInt} {
			for _, a := range places {
				for _, b := range places {
					if got, want := Count(da, d, a, b), countBy(da, d, a, b); got != want {
						t.Fatalf("%d numbers: %d from %d ahead of %d: %d, not %d", len(da), d, a, b, got, want)
					}
				}
			}
		}
	}
}

func TestCountsAddUp(t *testing.T) {
	for _, s := range small() {
		x := made(t, s.docs)
		da, e := Array(x, sorted(t, x))
		if e != api.OK {
			t.Fatalf("%s: %v", s.name, e)
		}
		n := len(da)
		for _, ab := range [][2]int{{0, n}, {-4, n + 4}, {n / 3, n}, {0, n / 2}, {n / 4, n / 2}, {n / 2, n / 4}, {n, n}} {
			sum := 0
			for d := range s.docs {
				sum += Count(da, d, ab[0], ab[1])
			}
			if want := max(min(ab[1], n)-max(ab[0], 0), 0); sum != want {
				t.Errorf("%s: from %d ahead of %d: %d in all, not %d", s.name, ab[0], ab[1], sum, want)
			}
		}
		if Count(da, -1, 0, n) != 0 || Count(da, len(s.docs), 0, n) != 0 {
			t.Errorf("%s: a document that isn't there", s.name)
		}
	}
}

func TestCountHasNoBoundOfItsOwn(t *testing.T) {
	const n = api.MaxInts + 1
	da := numbers(n, func(i int) int { return i%3 - 1 })
	for d := -2; d < 3; d++ {
		for _, ab := range [][2]int{{0, n}, {1, n - 1}, {-1, n + 1}, {n - 1, n}, {n / 2, n}, {n, n / 2}, {math.MinInt, math.MaxInt}} {
			if got, want := Count(da, d, ab[0], ab[1]), countBy(da, d, ab[0], ab[1]); got != want {
				t.Errorf("%d from %d ahead of %d: %d, not %d", d, ab[0], ab[1], got, want)
			}
		}
	}
}

func TestCountLeavesItsRow(t *testing.T) {
	for _, fill := range []int{0, 1, 7, -1, math.MaxInt} {
		// The spare room is none of the row's: whatever stands in it, the answers stay.
		da := withRoom([]int{0, 1, 0, 0, 1}, fill)
		was := slices.Clone(da[:cap(da)])
		checkCount(t, "with room", da, 0, 1, fill)
		if Count(da, fill, math.MinInt, math.MaxInt) != countBy(da, fill, 0, 5) {
			t.Errorf("the spare room of %d is counted", fill)
		}
		if !slices.Equal(da[:cap(da)], was) {
			t.Error("changed")
		}
	}
}

// The chapter's examples.

func TestExamples(t *testing.T) {
	da := []int{1, 0, 1, 1, 0}
	if back := Back(da); !slices.Equal(back, []int{-1, -1, 0, 2, 1}) {
		t.Errorf("Back: %v", back)
	}
	if ahead := Ahead(da); !slices.Equal(ahead, []int{2, 4, 3, 5, 5}) {
		t.Errorf("Ahead: %v", ahead)
	}
}
