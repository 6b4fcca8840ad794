package store

import (
	"bytes"
	"math"
	"slices"
	"testing"

	"colophon/api"
	"colophon/cache"
	"colophon/image"
	"colophon/index"
	"colophon/suffix"
)

// The sections by the chapter's words, and how many bits a page has.
const (
	about     = 0
	countsAt  = 1
	turnedAt  = 2
	ownersAt  = 11
	allParts  = 19
	bitsAPage = 2048
)

// extremes are numbers that are no place, no level and no symbol.
var extremes = []int{-1, -2, -2048, -api.MaxInts, math.MinInt32, math.MinInt, math.MinInt + 1, api.MaxInts, math.MaxInt32, 1 << 32, math.MaxInt - 1, math.MaxInt}

// kinds are those of the rows that there are.
var kinds = []api.RowKind{api.Turned, api.Owners}

// otherKinds are kinds of no row.
var otherKinds = []api.RowKind{-1, 2, 3, 9, 11, -2, 256, math.MaxInt32, 1 << 32, math.MaxInt, math.MinInt, math.MinInt + 1}

// collection is documents by a name.
type collection struct {
	name string
	docs [][]byte
}

// texts answers a collection of these documents.
func texts(name string, docs ...string) collection {
	c := collection{name: name}
	for _, d := range docs {
		c.docs = append(c.docs, []byte(d))
	}
	return c
}

// parted answers documents of b, each so many bytes.
func parted(name string, b []byte, size int) collection {
	return collection{name, slices.Collect(slices.Chunk(b, size))}
}

// again answers n bytes of s, again and again.
func again(s string, n int) []byte {
	return bytes.Repeat([]byte(s), n/len(s)+1)[:n]
}

// scatteredBytes answers n bytes from this one on, of so many unlike ones, that look like no rule.
func scatteredBytes(n, unlike int, from byte, seed uint64) []byte {
	b := make([]byte, n)
	for i := range b {
		seed = seed*6364136223846793005 + 1442695040888963407
		b[i] = from + byte((seed>>33)%uint64(unlike))
	}
	return b
}

// everyByte answers each byte once.
func everyByte() []byte {
	b := make([]byte, 256)
	for i := range b {
		b[i] = byte(i)
	}
	return b
}

// words answers all texts of at most so many of these letters.
func words(letters string, longest int) [][]byte {
	all := [][]byte{{}}
	from := 0
	for range longest {
		to := len(all)
		for _, w := range all[from:to] {
			for i := range len(letters) {
				all = append(all, slices.Concat(w, []byte{letters[i]}))
			}
		}
		from = to
	}
	return all
}

// everyChoice calls f with each row of so many of these words.
func everyChoice(all [][]byte, many int, f func(docs [][]byte)) {
	if many == 0 {
		f(nil)
		return
	}
	everyChoice(all, many-1, func(docs [][]byte) {
		for _, w := range all {
			f(append(slices.Clone(docs), w))
		}
	})
}

// spoil lays x everywhere in l, its spare room too.
func spoil[T any](l []T, x T) {
	l = l[:cap(l)]
	for i := range l {
		l[i] = x
	}
}

// withRoom answers bytes like b, with a spare room filled by fill.
func withRoom(b []byte, fill byte) []byte {
	k := make([]byte, len(b), len(b)+5)
	copy(k, b)
	spoil(k[len(k):], fill)
	return k
}

// few answers the first numbers of l, so that a fault's text stays short.
func few[T any](l []T) []T {
	return l[:min(len(l), 20)]
}

// someCollections answers collections of few and of many documents.
func someCollections() []collection {
	return []collection{
		{"no documents", nil}, {"one nil one", [][]byte{nil}}, {"one empty one", [][]byte{{}}}, {"empty ones alone", [][]byte{nil, {}, nil}},
		texts("the example", "banana", "ananas", "nab"), texts("one", "abracadabra"), texts("one byte", "a"), texts("empty ones", "", "ab", "", "", "b", ""), texts("an empty one last", "ab", "ba", ""), texts("like ones", "abab", "abab", "abab", "bab"),
		texts("beginnings", "a", "ab", "aba", "abab", "ababa"), texts("ends", "ababa", "baba", "aba", "ba", "a"), texts("alike", "a", "aaaa", "aa", "aaaaaaaa", "aaa"), texts("nothing in common", "abc", "def", "ghi", "jkl"),
		texts("bytes like ends' numbers", "\x00\x01\x02", "\x01\x00", "\x02\x02\x00\x01", "\x00"), texts("the greatest byte", "\xff\xff", "\xff\x00\xff", "\x00\xff\xff\xff"), texts("the least byte", "\x00\x00\x00", "", "\x00", "\x00\x00"), texts("across borders", "xa", "bx", "ab", "b", "a"),
		parted("each byte", everyByte(), 16), {"each byte twice", [][]byte{everyByte(), nil, everyByte()}}, parted("two", scatteredBytes(200, 2, 'a', 1), 37), parted("three", scatteredBytes(200, 3, 0, 2), 11), parted("bytes", scatteredBytes(300, 256, 0, 3), 90), parted("one a document", scatteredBytes(60, 4, 'x', 4), 1),
		{"many empty ones", append(make([][]byte, 100), []byte("ab"), nil, []byte("ba"))}, parted("as many as may be", scatteredBytes(2*api.MaxDocs, 2, 'a', 5), 2),
	}
}

// greatCollections answers collections of as much as may be.
func greatCollections() []collection {
	uneven := collection{name: "one letter, uneven"}
	for d := range api.MaxDocs {
		uneven.docs = append(uneven.docs, again("a", d*2))
	}
	long := collection{"one long, many short", [][]byte{scatteredBytes(api.MaxText-255, 2, 'a', 21)}}
	for d := range api.MaxDocs - 1 {
		long.docs = append(long.docs, []byte{'a' + byte(d%3)})
	}
	return []collection{
		parted("two letters", scatteredBytes(api.MaxText, 2, 'a', 22), 256), parted("bytes", scatteredBytes(api.MaxText, 256, 0, 23), 256), parted("like ones", again("abcab", api.MaxText), 256), parted("one letter", again("a", api.MaxText), 256),
		parted("one document", scatteredBytes(api.MaxText, 3, 'a', 24), api.MaxText), parted("one document of one letter", again("\xff", api.MaxText), api.MaxText), parted("two documents", again("ab", api.MaxText), api.MaxText/2), parted("three documents", scatteredBytes(api.MaxText, 4, 0, 25), 30000),
		uneven, long, {"all empty but the last one", append(make([][]byte, api.MaxDocs-1), scatteredBytes(api.MaxText, 2, 0, 26))}, {"all empty but the first one", append([][]byte{again("aab", api.MaxText)}, make([][]byte, api.MaxDocs-1)...)},
	}
}

// orderBy answers the order of all suffixes of a list by comparing them.
func orderBy(s []int) []int {
	sa := make([]int, len(s))
	for i := range sa {
		sa[i] = i
	}
	slices.SortFunc(sa, func(a, b int) int { return slices.Compare(s[a:], s[b:]) })
	return sa
}

// plan is what an image has of a collection by the chapter's words.
type plan struct {
	name    string
	docs    [][]byte
	symbols []int
	whole   int
	counts  []int
	rows    [2][]int   // by their kinds
	levels  [2][][]int // the bits of each
}

// levelsBy answers the bits of a row's levels by layer 13's words.
func levelsBy(row []int, width int) [][]int {
	var levels [][]int
	for bit := width - 1; bit >= 0; bit-- {
		parts := [2][]int{}
		level := make([]int, len(row))
		for i, x := range row {
			level[i] = x >> bit & 1
			parts[level[i]] = append(parts[level[i]], x)
		}
		levels = append(levels, level)
		row = slices.Concat(parts[0], parts[1])
	}
	return levels
}

// countsBy answers for each number up to alphabet how many of the row are below it.
func countsBy(row []int, alphabet int) []int {
	l := make([]int, alphabet+1)
	for _, x := range row {
		for c := x + 1; c <= alphabet; c++ {
			l[c]++
		}
	}
	return l
}

// planBy answers the plan of a collection.
func planBy(t *testing.T, c collection) plan {
	t.Helper()
	p := plan{name: c.name, docs: c.docs}
	var of []int // of which document each symbol is
	for d, b := range c.docs {
		for _, x := range b {
			p.symbols = append(p.symbols, len(c.docs)+int(x))
		}
		p.symbols = append(p.symbols, d)
		of = append(of, slices.Repeat([]int{d}, len(b)+1)...)
	}
	alphabet := len(c.docs) + 256
	n := len(p.symbols)
	sa := orderIn(t, p.symbols, alphabet)
	for i, at := range sa {
		if at == 0 {
			p.whole = i
		}
		p.rows[api.Turned] = append(p.rows[api.Turned], p.symbols[(at+n-1)%n])
		p.rows[api.Owners] = append(p.rows[api.Owners], of[at])
	}
	p.counts = countsBy(p.rows[api.Turned], alphabet)
	p.levels = [2][][]int{levelsBy(p.rows[api.Turned], 9), levelsBy(p.rows[api.Owners], 8)}
	return p
}

// orderIn answers the order of all suffixes of a list; to compare those of a long one could take too long.
func orderIn(t *testing.T, s []int, alphabet int) []int {
	t.Helper()
	if len(s) < 2000 {
		return orderBy(s)
	}
	sa, e := suffix.Array(s, alphabet)
	if e != api.OK {
		t.Fatal(e)
	}
	return sa
}

// lowest answers numbers in so many bytes each, the lowest one first.
func lowest(size int, numbers ...int) []byte {
	var b []byte
	for _, x := range numbers {
		for range size {
			b = append(b, byte(x%256))
			x /= 256
		}
	}
	return b
}

// bitBytes answers bits in words of eight bytes, the lowest one first.
func bitBytes(level []int) []byte {
	b := make([]byte, (len(level)+63)/64*8)
	for i, x := range level {
		b[i/8] += byte(x << (i % 8))
	}
	return b
}

// sections answers the sections by the chapter's section 'Form'.
func (p plan) sections() [][]byte {
	said := slices.Concat(lowest(2, len(p.docs)), lowest(4, len(p.symbols)), lowest(4, p.whole))
	for _, b := range p.docs {
		said = append(said, lowest(4, len(b))...)
	}
	l := [][]byte{said, lowest(4, p.counts...)}
	for _, levels := range p.levels {
		for _, level := range levels {
			l = append(l, bitBytes(level))
		}
	}
	return l
}

// pictured answers the image of these sections.
func pictured(t *testing.T, sections ...[]byte) []byte {
	t.Helper()
	b, e := image.Build(sections...)
	if e != api.OK {
		t.Fatal(e)
	}
	return b
}

// indexed answers the index of a collection.
func indexed(t *testing.T, c collection) *index.Index {
	t.Helper()
	x, e := index.Build(c.docs...)
	if e != api.OK {
		t.Fatalf("%s: %v", c.name, e)
	}
	return x
}

// saved answers the image of a collection's index.
func saved(t *testing.T, c collection) []byte {
	t.Helper()
	b, e := Save(indexed(t, c))
	if e != api.OK {
		t.Fatalf("%s: Save: %v", c.name, e)
	}
	return b
}

// loaded answers the store of an image.
func loaded(t *testing.T, name string, b []byte) *Store {
	t.Helper()
	s, e := Load(b)
	if e != api.OK || s == nil {
		t.Fatalf("%s: Load: %v, %v", name, s != nil, e)
	}
	return s
}

// stored answers the store of a collection.
func stored(t *testing.T, c collection) *Store {
	t.Helper()
	return loaded(t, c.name, saved(t, c))
}

// cached answers an empty cache of a store's pages.
func cached(t *testing.T, s *Store, frames int) *cache.Cache {
	t.Helper()
	c, e := cache.New(s.Image(), frames)
	if e != api.OK {
		t.Fatal(e)
	}
	return c
}

// refused holds that these bytes are refused.
func refused(t *testing.T, name string, b []byte) {
	t.Helper()
	if s, e := Load(b); s != nil || e != api.ErrForm {
		t.Fatalf("%s: Load: %v, %v", name, s != nil, e)
	}
}

// refusedSections holds that an image of these sections is refused.
func refusedSections(t *testing.T, name string, sections [][]byte) {
	t.Helper()
	refused(t, name, pictured(t, sections...))
}

// justSaved holds that these bytes are refused, or are just what Save answers for the documents that Load finds, and tells which.
func justSaved(t *testing.T, name string, b []byte) bool {
	t.Helper()
	s, e := Load(b)
	if e != api.OK {
		if s != nil || e != api.ErrForm {
			t.Fatalf("%s: Load: %v, %v", name, s != nil, e)
		}
		return false
	}
	if !bytes.Equal(saved(t, collection{name, s.Docs()}), b) {
		t.Fatalf("%s: Load has documents %q of another image", name, few(s.Docs()))
	}
	return true
}

// with answers these sections, of which one is another.
func with(sections [][]byte, i int, b []byte) [][]byte {
	l := slices.Clone(sections)
	l[i] = b
	return l
}

// turnedBit answers bytes like b, of which this bit is another one.
func turnedBit(b []byte, bit int) []byte {
	k := slices.Clone(b)
	k[bit/8] ^= 1 << (bit % 8)
	return k
}

// number answers the number at this place of four bytes each.
func number(b []byte, at int) int {
	return int(b[at]) + int(b[at+1])<<8 + int(b[at+2])<<16 + int(b[at+3])<<24
}

// withNumber answers bytes like b, with another number at this place, in so many bytes.
func withNumber(b []byte, at, size, x int) []byte {
	return slices.Concat(b[:at], lowest(size, x), b[at+size:])
}

// sameDocs tells whether these are the same documents.
func sameDocs(a, b [][]byte) bool {
	return slices.EqualFunc(a, b, bytes.Equal)
}

// wantSections holds an image against the plan of its collection.
func wantSections(t *testing.T, p plan, b []byte) {
	t.Helper()
	m, e := image.Open(b)
	if e != api.OK || m.Sections() != allParts {
		t.Fatalf("%s: %d sections, %v", p.name, m.Sections(), e)
	}
	all := p.sections()
	for i, want := range all {
		if got := m.Section(i); !bytes.Equal(got, want) {
			t.Fatalf("%s: %q: section %d: %x, %d bytes, not %x, %d bytes", p.name, few(p.docs), i, few(got), len(got), few(want), len(want))
		}
	}
	if !bytes.Equal(pictured(t, all...), b) {
		t.Fatalf("%s: another image of these sections", p.name)
	}
}

// aheadOf tells whether the bits of x, read from the last one on, are less than those of c.
func aheadOf(x, c, width int) bool {
	for bit := range width {
		if x>>bit&1 != c>>bit&1 {
			return c>>bit&1 == 1
		}
	}
	return false
}

// beginsBy answers of each number of so many bits how many of the row stand ahead of it behind the last level.
func beginsBy(row []int, width int) []int {
	many := make([]int, 1<<width)
	for _, x := range row {
		many[x]++
	}
	l := make([]int, 1<<width)
	for c := range l {
		for x := range many {
			if many[x] > 0 && aheadOf(x, c, width) {
				l[c] += many[x]
			}
		}
	}
	return l
}

// onesBy answers how many ones a level has ahead of each place, and of the one behind the last.
func onesBy(level []int) []int {
	l := []int{0}
	for i, x := range level {
		l = append(l, l[i]+x)
	}
	return l
}

// firstOf answers a row's first section.
func firstOf(k api.RowKind) int {
	if k == api.Turned {
		return turnedAt
	}
	return ownersAt
}

// wantKept holds Docs, Len, Image, Below, Levels, Ones and Begin against the plan.
func wantKept(t *testing.T, p plan, s *Store) {
	t.Helper()
	if !sameDocs(s.Docs(), p.docs) || s.Len() != len(p.symbols) {
		t.Fatalf("%s: Docs %q, not %q; Len %d, not %d", p.name, few(s.Docs()), few(p.docs), s.Len(), len(p.symbols))
	}
	for i, want := range p.sections() {
		if !bytes.Equal(s.Image().Section(i), want) {
			t.Fatalf("%s: Image: section %d", p.name, i)
		}
	}
	if s.Image().Sections() != allParts || len(s.Image().Section(allParts)) != 0 {
		t.Fatalf("%s: Image: %d sections", p.name, s.Image().Sections())
	}
	for c, want := range p.counts {
		if s.Below(c) != want {
			t.Fatalf("%s: Below(%d): %d, not %d", p.name, c, s.Below(c), want)
		}
	}
	for _, c := range append([]int{len(p.counts), len(p.counts) + 1, 2 * len(p.counts), 1 << 16}, extremes...) {
		if s.Below(c) != 0 {
			t.Fatalf("%s: Below(%d): %d", p.name, c, s.Below(c))
		}
	}
	for _, k := range kinds {
		wantLevels(t, p, s, k)
	}
	wantNoRow(t, p.name, s)
}

// wantLevels holds Levels, Ones and Begin of a row against the plan.
func wantLevels(t *testing.T, p plan, s *Store, k api.RowKind) {
	t.Helper()
	width := 9 - int(k)
	if s.Levels(k) != width {
		t.Fatalf("%s: Levels(%d): %d", p.name, k, s.Levels(k))
	}
	for level, bits := range p.levels[k] {
		ones := onesBy(bits)
		if got := s.Ones(k, level); got != ones[len(bits)] {
			t.Fatalf("%s: Ones(%d, %d): %d, not %d", p.name, k, level, got, ones[len(bits)])
		}
	}
	for _, level := range append([]int{width, width + 1, 2 * width, 16}, extremes...) {
		if s.Ones(k, level) != 0 {
			t.Fatalf("%s: Ones(%d, %d): %d", p.name, k, level, s.Ones(k, level))
		}
	}
	for c, want := range beginsBy(p.rows[k], width) {
		if got := s.Begin(k, c); got != want {
			t.Fatalf("%s: Begin(%d, %d): %d, not %d", p.name, k, c, got, want)
		}
	}
	for _, c := range append([]int{1 << width, 1<<width + 1, 1<<width + 97, 2<<width - 1, 2 << width, 1 << 16, 1<<32 + 1, 1<<33 + 97}, extremes...) {
		if s.Begin(k, c) != 0 {
			t.Fatalf("%s: Begin(%d, %d): %d", p.name, k, c, s.Begin(k, c))
		}
	}
}

// wantNoRow holds what is answered of kinds of no row.
func wantNoRow(t *testing.T, name string, s *Store) {
	t.Helper()
	for _, k := range otherKinds {
		if s.Levels(k) != 0 {
			t.Fatalf("%s: Levels(%d): %d", name, k, s.Levels(k))
		}
		for _, x := range append([]int{0, 1, 2, 7, 8, 97, 255, 511}, extremes...) {
			if s.Begin(k, x) != 0 || s.Ones(k, x) != 0 || s.Page(k, x, 0) != -1 || s.Page(k, 0, x) != -1 {
				t.Fatalf("%s: of kind %d, %d: %d, %d, %d, %d", name, k, x, s.Begin(k, x), s.Ones(k, x), s.Page(k, x, 0), s.Page(k, 0, x))
			}
		}
	}
}

// beside answers the places of n and the one behind them that stand about borders of pages or the row's ends, and some between.
func beside(n int) []int {
	var l []int
	for i := 0; i <= n; i++ {
		at := i % bitsAPage
		if at < 3 || at > bitsAPage-3 || i > n-3 || i%331 == 0 || n < 400 {
			l = append(l, i)
		}
	}
	return l
}

// wantPages holds Page of these places of each level.
func wantPages(t *testing.T, p plan, s *Store, places []int) {
	t.Helper()
	m := s.Image()
	for _, k := range kinds {
		for level := range p.levels[k] {
			first := m.First(firstOf(k) + level)
			for _, i := range places {
				want := first + i/bitsAPage
				if i == len(p.symbols) {
					want = -1
				}
				if got := s.Page(k, level, i); got != want {
					t.Fatalf("%s: Page(%d, %d, %d): %d, not %d", p.name, k, level, i, got, want)
				}
			}
			for _, i := range append([]int{len(p.symbols), len(p.symbols) + 1, len(p.symbols) + bitsAPage}, extremes...) {
				if got := s.Page(k, level, i); got != -1 {
					t.Fatalf("%s: Page(%d, %d, %d): %d", p.name, k, level, i, got)
				}
			}
		}
		for _, level := range append([]int{len(p.levels[k]), len(p.levels[k]) + 1, 17, 19}, extremes...) {
			if got := s.Page(k, level, 0); got != -1 {
				t.Fatalf("%s: Page(%d, %d, 0): %d", p.name, k, level, got)
			}
		}
	}
}

// wantRank holds one Rank with the cache c against what is so, and against a twin of the cache that holds and drops the page itself.
func wantRank(t *testing.T, p plan, s *Store, c, twin *cache.Cache, k api.RowKind, level, i, want int) {
	t.Helper()
	missed := false
	if i%bitsAPage != 0 && i != len(p.symbols) {
		page := s.Image().First(firstOf(k)+level) + i/bitsAPage
		_, hit, e := twin.Hold(page)
		if e != api.OK || !twin.Drop(page) {
			t.Fatalf("%s: page %d: %v", p.name, page, e)
		}
		missed = !hit
	}
	got, miss, e := s.Rank(c, k, level, i)
	if got != want || miss != missed || e != api.OK || c.Stats() != twin.Stats() {
		t.Fatalf("%s: Rank(%d, %d, %d): %d, %v, %v, cache %v, not %d, %v, cache %v", p.name, k, level, i, got, miss, e, c.Stats(), want, missed, twin.Stats())
	}
}

// wantRanks holds Rank of these places of each level, with a cache of so many frames, from which nothing stays held.
func wantRanks(t *testing.T, p plan, s *Store, frames int, places []int) {
	t.Helper()
	c, twin := cached(t, s, frames), cached(t, s, frames)
	for _, k := range kinds {
		for level, bits := range p.levels[k] {
			ones := onesBy(bits)
			for _, i := range places {
				wantRank(t, p, s, c, twin, k, level, i, ones[i])
			}
		}
	}
	if c.Stats().Pinned != 0 {
		t.Fatalf("%s: held: %v", p.name, c.Stats())
	}
	for n := range s.Image().Pages() {
		if c.Has(n) != twin.Has(n) {
			t.Fatalf("%s: the cache has page %d: %v", p.name, n, c.Has(n))
		}
	}
}

// everyPlace answers the places of n and the one behind them.
func everyPlace(n int) []int {
	l := make([]int, n+1)
	for i := range l {
		l[i] = i
	}
	return l
}

// jumping answers the places of n and the one behind them in an order that goes from page to page.
func jumping(n int) []int {
	l := everyPlace(n)
	for i := range l {
		l[i] = i * 2053 % (n + 1)
	}
	return l
}

// wantStore holds all that a store answers, of every place.
func wantStore(t *testing.T, p plan, s *Store) {
	t.Helper()
	wantKept(t, p, s)
	wantPages(t, p, s, everyPlace(len(p.symbols)))
	wantRanks(t, p, s, 1, everyPlace(len(p.symbols)))
	wantRanks(t, p, s, 3, jumping(len(p.symbols)))
}

// longCollections answers collections of several pages a level, and of about as many symbols as a page has bits.
func longCollections() []collection {
	l := []collection{
		parted("three pages", scatteredBytes(5000, 11, 0, 41), 5000), parted("many documents of some pages", scatteredBytes(4100, 2, 'a', 42), 61), {"empty ones ahead and behind", [][]byte{nil, nil, scatteredBytes(2500, 256, 0, 43), nil, again("ab", 2500), nil}},
	}
	for _, n := range []int{63, 64, 65, 127, 128, 129, bitsAPage - 1, bitsAPage, bitsAPage + 1, 2*bitsAPage - 1, 2 * bitsAPage, 2*bitsAPage + 1} {
		l = append(l, parted("just so many symbols", scatteredBytes(n-1, 3, 'a', uint64(n)), n-1), parted("as many with a document more", scatteredBytes(n-2, 256, 0, uint64(n)), n-3))
	}
	return l
}

// P20.1

func TestSaveOfNoIndex(t *testing.T) {
	if b, e := Save(nil); len(b) != 0 || e != api.ErrNil {
		t.Errorf("Save(nil): %x, %v", b, e)
	}
}

func TestSaveHasTheForm(t *testing.T) {
	for _, c := range slices.Concat(someCollections(), longCollections()) {
		wantSections(t, planBy(t, c), saved(t, c))
	}
}

func TestSaveOfEachNumberOfDocuments(t *testing.T) {
	for many := range api.MaxDocs + 1 {
		for _, d := range []string{"", "a"} {
			c := collection{"alike", slices.Repeat([][]byte{[]byte(d)}, many)}
			b := saved(t, c)
			wantSections(t, planBy(t, c), b)
			if s := loaded(t, c.name, b); !sameDocs(s.Docs(), c.docs) || s.Len() != many*(len(d)+1) {
				t.Fatalf("%d of %q: %d, of %d symbols", many, d, len(s.Docs()), s.Len())
			}
		}
	}
}

func TestSaveWrittenOut(t *testing.T) {
	// The symbols are 99 100 0 100 1; the order of their suffixes is 2 4 0 1 3, and the numbers ahead of these 100 100 1 99 0.
	m, e := image.Open(saved(t, texts("the example", "ab", "b")))
	if e != api.OK || m.Sections() != 19 {
		t.Fatalf("%d sections, %v", m.Sections(), e)
	}
	for i, want := range map[int]string{
		0: "\x02\x00" + "\x05\x00\x00\x00" + "\x02\x00\x00\x00" + "\x02\x00\x00\x00" + "\x01\x00\x00\x00",
		2: "\x00\x00\x00\x00\x00\x00\x00\x00", 3: "\x00\x00\x00\x00\x00\x00\x00\x00",
		4:  "\x0b\x00\x00\x00\x00\x00\x00\x00", // the bit of 64 of 100 100 1 99 0
		5:  "\x1c\x00\x00\x00\x00\x00\x00\x00", // the bit of 32 of 1 0 100 100 99
		8:  "\x0c\x00\x00\x00\x00\x00\x00\x00", // the bit of 4 of these
		9:  "\x04\x00\x00\x00\x00\x00\x00\x00", // the bit of 2 of 1 0 99 100 100
		10: "\x11\x00\x00\x00\x00\x00\x00\x00", // the bit of 1 of 1 0 100 100 99
		11: "\x00\x00\x00\x00\x00\x00\x00\x00",
		18: "\x12\x00\x00\x00\x00\x00\x00\x00", // of the documents 0 1 0 0 1
	} {
		if got := m.Section(i); string(got) != want {
			t.Errorf("section %d: %x, not %x", i, got, want)
		}
	}
	counts := m.Section(1)
	if len(counts) != 4*(2+256+1) {
		t.Fatalf("section 1: %d bytes", len(counts))
	}
	for c := range 2 + 256 + 1 {
		want := 0
		for _, x := range []int{0, 1, 99, 100, 100} {
			if x < c {
				want++
			}
		}
		if number(counts, 4*c) != want {
			t.Errorf("below %d: %d, not %d", c, number(counts, 4*c), want)
		}
	}
}

func TestSaveOfGreatCollections(t *testing.T) {
	for _, c := range greatCollections() {
		b := saved(t, c)
		p := planBy(t, c)
		wantSections(t, p, b)
		s := loaded(t, c.name, b)
		wantKept(t, p, s)
		wantPages(t, p, s, beside(len(p.symbols)))
		wantRanks(t, p, s, 2, beside(len(p.symbols)))
	}
}

func TestSaveAndLoadOfEveryShortCollection(t *testing.T) {
	seen := map[string][][]byte{}
	for _, w := range []struct {
		letters       string
		many, longest int
	}{{"ab", 0, 0}, {"ab", 1, 6}, {"ab", 2, 3}, {"ab", 3, 2}, {"ab", 5, 1}, {"\x00\xffa", 1, 3}, {"\x00\xff", 2, 2}, {"\x00\x01a", 3, 1}, {"a", 4, 2}} {
		everyChoice(words(w.letters, w.longest), w.many, func(docs [][]byte) {
			c := collection{"short", docs}
			b := saved(t, c)
			if other, ok := seen[string(b)]; ok && !sameDocs(other, docs) {
				t.Fatalf("one image of %q and %q", other, docs)
			}
			seen[string(b)] = docs
			p := planBy(t, c)
			if !bytes.Equal(b, pictured(t, p.sections()...)) {
				wantSections(t, p, b)
			}
			s := loaded(t, c.name, b)
			if !sameDocs(s.Docs(), docs) || s.Len() != len(p.symbols) {
				t.Fatalf("%q: %q, %d", docs, s.Docs(), s.Len())
			}
			wantRanks(t, p, s, 1, everyPlace(len(p.symbols)))
		})
	}
}

func TestSaveTwice(t *testing.T) {
	c, d := texts("one", "banana", "ananas", "nab"), texts("another", "b", "", "anna")
	x, y := indexed(t, c), indexed(t, d)
	b, k := saved(t, c), saved(t, d)
	for range 3 {
		one, e := Save(x)
		other, f := Save(y)
		if e != api.OK || f != api.OK || !bytes.Equal(one, b) || !bytes.Equal(other, k) {
			t.Fatalf("Save again: %v, %v", e, f)
		}
		spoil(one, 7)
		spoil(other, 9)
	}
	if again, e := Save(x); e != api.OK || !bytes.Equal(again, b) {
		t.Errorf("Save behind a spoilt one: %v", e)
	}
}

func TestSaveLeavesTheIndex(t *testing.T) {
	for _, c := range someCollections() {
		x, y := indexed(t, c), indexed(t, c)
		if _, e := Save(x); e != api.OK {
			t.Fatal(e)
		}
		if !slices.Equal(x.Text().Symbols(), y.Text().Symbols()) || x.Finder().Len() != y.Finder().Len() {
			t.Fatalf("%s: another collection", c.name)
		}
		for i := range x.Matrix().Len() + 1 {
			if x.Matrix().At(i) != y.Matrix().At(i) {
				t.Fatalf("%s: another document at %d", c.name, i)
			}
		}
		for _, p := range []string{"a", "b", "ab", "an", "\x00", "\xff", "ba", "aa"} {
			one, e := x.Top([]byte(p), 9)
			other, f := y.Top([]byte(p), 9)
			if e != f || !slices.Equal(one, other) {
				t.Fatalf("%s: %q: %v, not %v", c.name, p, one, other)
			}
		}
	}
}

func TestLoadOfNoImage(t *testing.T) {
	for _, b := range [][]byte{nil, {}, {0}, []byte("colo"), make([]byte, 263), make([]byte, 264), make([]byte, 265), make([]byte, 264*24), again("colo\x13\x00", 264), scatteredBytes(264*24, 256, 0, 44)} {
		refused(t, "no image", b)
	}
	b := saved(t, texts("the example", "ab", "b"))
	for n := range b {
		refused(t, "a beginning", b[:n])
		refused(t, "an end", b[n+1:])
	}
	refused(t, "a byte more", append(slices.Clone(b), 0))
	refused(t, "a byte ahead", append([]byte{0}, b...))
	refused(t, "twice", slices.Concat(b, b))
	refused(t, "a page more", slices.Concat(b, b[len(b)-264:]))
}

func TestLoadOfMoreAndFewerSections(t *testing.T) {
	for _, c := range []collection{texts("the example", "ab", "b"), {"no documents", nil}, {"one empty one", [][]byte{nil}}, parted("bytes", scatteredBytes(300, 256, 0, 3), 90)} {
		all := planBy(t, c).sections()
		for n := range all {
			refusedSections(t, "the first ones alone", all[:n])
			refusedSections(t, "without the first ones", all[n+1:])
			refusedSections(t, "one less", slices.Concat(all[:n], all[n+1:]))
			refusedSections(t, "one twice", slices.Concat(all[:n], all[n:n+1], all[n:]))
			refusedSections(t, "an empty one more", slices.Concat(all[:n], [][]byte{nil}, all[n:]))
		}
		refusedSections(t, "an empty one behind", append(slices.Clone(all), nil))
		refusedSections(t, "one behind", append(slices.Clone(all), []byte("ab")))
		refusedSections(t, "as many as may be", append(slices.Clone(all), make([][]byte, 60-len(all))...))
		refusedSections(t, "no sections", nil)
		if !justSaved(t, c.name, pictured(t, all...)) {
			t.Fatalf("%s: refused", c.name)
		}
	}
	for n := range 61 {
		refusedSections(t, "empty ones", make([][]byte, n))
	}
}

func TestLoadOfLongerAndShorterSections(t *testing.T) {
	for _, c := range []collection{texts("the example", "ab", "b"), {"no documents", nil}, {"one empty one", [][]byte{nil}}, {"empty ones", [][]byte{nil, {}, nil}}, parted("just so many symbols", again("ab", 63), 63), parted("one more", again("ab", 64), 64), parted("two words", again("abc", 120), 7)} {
		all := planBy(t, c).sections()
		for i, b := range all {
			for _, n := range []int{1, 2, 3, 4, 5, 7, 8, 9, 12, 16, 24, 256} {
				refusedSections(t, "noughts behind", with(all, i, append(slices.Clone(b), make([]byte, n)...)))
				refusedSections(t, "noughts ahead", with(all, i, append(make([]byte, n), b...)))
				refusedSections(t, "ones behind", with(all, i, append(slices.Clone(b), again("\x01", n)...)))
				if n <= len(b) {
					refusedSections(t, "less behind", with(all, i, b[:len(b)-n]))
					refusedSections(t, "less ahead", with(all, i, b[n:]))
				}
			}
			if len(b) > 0 {
				refusedSections(t, "an empty one", with(all, i, nil))
				refusedSections(t, "twice as long", with(all, i, slices.Concat(b, b)))
			}
		}
		for i := turnedAt; i < allParts; i++ {
			more := slices.Clone(all)
			for k := turnedAt; k <= i; k++ {
				more[k] = append(slices.Clone(more[k]), make([]byte, 8)...)
			}
			refusedSections(t, "a word more in each of some", more)
		}
	}
}

func TestLoadOfOtherNumbers(t *testing.T) {
	// Of the first one a third of the bits, of the others a ninth each.
	step := 3
	for _, c := range []collection{texts("the example", "ab", "b"), {"no documents", nil}, {"one empty one", [][]byte{nil}}, {"empty ones", [][]byte{nil, {}, nil}}, texts("another example", "banana", "ananas", "nab"), texts("like ones", "ab", "ab", "", "ab")} {
		all := planBy(t, c).sections()
		for i := range 2 {
			for bit := len(c.docs) % step; bit < 8*len(all[i]); bit += step {
				refusedSections(t, "another bit of a number", with(all, i, turnedBit(all[i], bit)))
			}
		}
		step = 9
		others := []int{0, 1, 2, 255, 256, 257, 511, 512, 65535}
		for _, x := range others {
			if x != len(c.docs) {
				refusedSections(t, "another number of documents", with(all, about, withNumber(all[about], 0, 2, x)))
			}
		}
		others = append(others, 65536, api.MaxInts-1, api.MaxInts, api.MaxInts+1, math.MaxInt32, math.MaxInt32+1, math.MaxUint32-1, math.MaxUint32)
		for at := 2; at < len(all[about]); at += 4 {
			wantOthers(t, all, about, at, others)
		}
		for at := 0; at < len(all[countsAt]); at += 4 {
			wantOthers(t, all, countsAt, at, others[:2])
		}
	}
}

// wantOthers holds that an image is refused with each other number at a place of a section, also one more or one less than is there.
func wantOthers(t *testing.T, all [][]byte, i, at int, others []int) {
	t.Helper()
	is := number(all[i], at)
	for _, x := range append([]int{is + 1, is - 1}, others...) {
		if x >= 0 && x != is {
			refusedSections(t, "another number", with(all, i, withNumber(all[i], at, 4, x)))
		}
	}
}

func TestLoadOfOtherBits(t *testing.T) {
	for _, c := range []collection{texts("the example", "ab", "b"), {"one empty one", [][]byte{nil}}, {"empty ones", [][]byte{nil, {}, nil}}, texts("another example", "banana", "ananas", "nab"), texts("like ones", "ab", "ab", "", "ab"), parted("just so many symbols", again("ab", 63), 63), parted("one more", again("ab", 64), 64), parted("one a document", scatteredBytes(60, 4, 'x', 4), 1)} {
		all := planBy(t, c).sections()
		for i := turnedAt; i < allParts; i++ {
			for bit := range 8 * len(all[i]) {
				refusedSections(t, "another bit of a level", with(all, i, turnedBit(all[i], bit)))
			}
		}
	}
}

func TestLoadOfSomeOtherBitsOfLongLevels(t *testing.T) {
	for _, c := range longCollections()[:3] {
		all := planBy(t, c).sections()
		for i := turnedAt; i < allParts; i++ {
			for bit := i; bit < 8*len(all[i]); bit += 701 {
				refusedSections(t, c.name, with(all, i, turnedBit(all[i], bit)))
			}
			refusedSections(t, c.name, with(all, i, turnedBit(all[i], 8*len(all[i])-1)))
		}
	}
}

func TestLoadOfSectionsOfOthers(t *testing.T) {
	like := []collection{texts("a", "ab", "b"), texts("b", "b", "ab"), texts("c", "ba", "b"), texts("d", "", "abb"), texts("e", "bab", ""), texts("f", "aa", "b"), texts("g", "abb"), texts("h", "a", "", "b"), texts("i", "ab", "b", "")}
	for _, c := range like {
		for _, d := range like {
			one, other := planBy(t, c).sections(), planBy(t, d).sections()
			for i := range one {
				if !justSaved(t, c.name+d.name, pictured(t, with(one, i, other[i])...)) && bytes.Equal(one[i], other[i]) {
					t.Fatalf("section %d of %q in that of %q", i, d.docs, c.docs)
				}
				b := pictured(t, slices.Concat(one[:i], other[i:])...)
				if !justSaved(t, c.name+d.name, b) && (bytes.Equal(b, pictured(t, one...)) || bytes.Equal(b, pictured(t, other...))) {
					t.Fatalf("sections from %d on of %q behind those of %q", i, d.docs, c.docs)
				}
			}
		}
	}
}

func TestLoadOfSectionsExchanged(t *testing.T) {
	for _, c := range []collection{texts("the example", "ab", "b"), texts("like ones", "ab", "ab", "", "ab"), {"no documents", nil}, {"empty ones", [][]byte{nil, {}, nil}}} {
		all := planBy(t, c).sections()
		for i := range all {
			for k := range i {
				exchanged := with(with(all, i, all[k]), k, all[i])
				if justSaved(t, c.name, pictured(t, exchanged...)) != bytes.Equal(all[i], all[k]) {
					t.Fatalf("sections %d and %d of %q exchanged", k, i, c.docs)
				}
			}
		}
	}
}

// everyRow calls f with each row of so many of these numbers.
func everyRow(numbers []int, many int, f func(row []int)) {
	if many == 0 {
		f(nil)
		return
	}
	everyRow(numbers, many-1, func(row []int) {
		for _, x := range numbers {
			f(append(slices.Clone(row), x))
		}
	})
}

// imagesOf answers the images of all collections of so many documents and symbols of the letters a and b, with their documents.
func imagesOf(t *testing.T, documents, symbols int) map[string][][]byte {
	all := map[string][][]byte{}
	everyChoice(words("ab", symbols-documents), documents, func(docs [][]byte) {
		if len(slices.Concat(docs...)) == symbols-documents {
			all[string(saved(t, collection{"short", docs}))] = docs
		}
	})
	return all
}

// TestLoadOfEveryRow lays each row of symbols as a turned row, with each place of the whole, each row of documents, and some lengths, all else as it should be of these.
func TestLoadOfEveryRow(t *testing.T) {
	for _, w := range []struct{ documents, symbols int }{{1, 1}, {1, 2}, {1, 3}, {1, 4}, {2, 2}, {2, 3}, {2, 4}, {3, 3}} {
		images, found := imagesOf(t, w.documents, w.symbols), 0
		numbers := []int{w.documents + 'a', w.documents + 'b'}
		owners := []int{}
		for d := range w.documents {
			numbers, owners = append(numbers, d), append(owners, d)
		}
		lengths := everyLength(w.documents, w.symbols-w.documents)
		everyRow(numbers, w.symbols, func(turned []int) {
			everyRow(owners, w.symbols, func(of []int) {
				if w.documents*w.symbols > 6 && !fits(turned, of) {
					return
				}
				for whole := range w.symbols {
					for _, docs := range lengths {
						p := plan{docs: docs, symbols: turned, whole: whole, counts: countsBy(turned, w.documents+256), levels: [2][][]int{levelsBy(turned, 9), levelsBy(of, 8)}}
						b := pictured(t, p.sections()...)
						docs, is := images[string(b)]
						if !is {
							refused(t, "another row", b)
							continue
						}
						found++
						if s := loaded(t, "a row", b); !sameDocs(s.Docs(), docs) {
							t.Fatalf("%q, not %q", s.Docs(), docs)
						}
					}
				}
			})
		})
		if found != len(images) {
			t.Fatalf("%d documents, %d symbols: %d images of %d", w.documents, w.symbols, found, len(images))
		}
	}
}

// everyLength answers rows of so many documents that have so many bytes in all.
func everyLength(many, size int) [][][]byte {
	if many == 1 {
		return [][][]byte{{make([]byte, size)}}
	}
	var l [][][]byte
	for n := range size + 1 {
		for _, docs := range everyLength(many-1, size-n) {
			l = append(l, append([][]byte{make([]byte, n)}, docs...))
		}
	}
	return l
}

// fits tells whether each document is there in both rows, and not all documents are one.
func fits(turned, of []int) bool {
	return slices.Max(of) > slices.Min(of) && slices.Contains(turned, 0) && slices.Contains(turned, 1)
}

func TestLoadOfAnySections(t *testing.T) {
	for seed := range uint64(400) {
		n := int(seed % 70)
		some := func(size int, k uint64) []byte { return scatteredBytes(size, 256, 0, seed*100+k) }
		all := [][]byte{slices.Concat(lowest(2, int(seed)%5), lowest(4, n), lowest(4, 0), some(4*(int(seed)%5), 1)), some(4*257, 2)}
		for k := range 17 {
			all = append(all, some((n+63)/64*8, uint64(3+k)))
		}
		justSaved(t, "any", pictured(t, all...))
		for k := range 17 {
			level := slices.Clone(all[2+k])
			for bit := n; bit < 8*len(level); bit++ {
				level[bit/8] &^= 1 << (bit % 8)
			}
			all[2+k] = level
		}
		justSaved(t, "any levels of so many bits", pictured(t, all...))
		for k := range all {
			all[k] = some(int(seed*uint64(k+1)%300), uint64(50+k))
		}
		justSaved(t, "any lengths", pictured(t, all...))
	}
}

func TestLoadOfSectionsAsLongAsMayBe(t *testing.T) {
	// The levels of both rows have as many pages as an image may have beside the others.
	for _, n := range []int{api.MaxText + api.MaxDocs, api.MaxText + api.MaxDocs + 1, 2 * api.MaxText, 240 * bitsAPage} {
		for _, documents := range []int{0, 1, 2, 256, 257, 65535} {
			all := [][]byte{slices.Concat(lowest(2, documents), lowest(4, n), lowest(4, 0), make([]byte, 4*min(documents, 257))), make([]byte, 4*(min(documents, 257)+257))}
			for range 17 {
				all = append(all, make([]byte, (n+63)/64*8))
			}
			refusedSections(t, "noughts", all)
			all[10] = bitBytes([]int{1})
			all[10] = append(all[10], make([]byte, (n+63)/64*8-8)...)
			refusedSections(t, "a one", all)
		}
	}
	for _, n := range []int{math.MaxUint32, math.MaxInt32, math.MaxInt32 + 1, api.MaxInts, api.MaxInts + 1} {
		for _, size := range []int{0, 8, 64} {
			all := [][]byte{slices.Concat(lowest(2, 1), lowest(4, n), lowest(4, 0), lowest(4, n-1)), make([]byte, 4*258)}
			for range 17 {
				all = append(all, make([]byte, size))
			}
			refusedSections(t, "far more symbols than bits", all)
		}
	}
	// Documents and bytes that no collection may have, else as they should be.
	for _, c := range []collection{{"a document more", make([][]byte, api.MaxDocs+1)}, parted("a byte more", again("ab", api.MaxText+1), api.MaxText+1), {"many more", make([][]byte, 1000)}, {"many with a byte", slices.Repeat([][]byte{{0}}, 300)}} {
		p := planBy(t, c)
		if slices.Max(p.rows[api.Owners]) > 255 {
			p.levels[api.Owners] = levelsBy(make([]int, len(p.symbols)), 8)
		}
		refusedSections(t, c.name, p.sections())
	}
}

func TestLoadLeavesAndKeepsNothing(t *testing.T) {
	for _, c := range slices.Concat(someCollections(), longCollections()[:3]) {
		p := planBy(t, c)
		b := saved(t, c)
		for _, fill := range []byte{0, 255} {
			k := withRoom(b, fill)
			s := loaded(t, c.name, k)
			room := k[:cap(k)]
			if !bytes.Equal(k, b) || bytes.Count(room[len(k):], []byte{fill}) != cap(k)-len(k) {
				t.Fatalf("%s: Load turns what is handed in", c.name)
			}
			spoil(k, 0x5a)
			wantKept(t, p, s)
			wantRanks(t, p, s, 2, beside(len(p.symbols)))
		}
		k := withRoom(turnedBit(b, 8*len(b)/2), 3)
		before := slices.Clone(k[:cap(k)])
		refused(t, c.name, k)
		if !bytes.Equal(k[:cap(k)], before) {
			t.Fatalf("%s: Load turns what it refuses", c.name)
		}
	}
}

func TestLoadDoesNotHangOnEarlierLoads(t *testing.T) {
	c, d := texts("one", "banana", "ananas", "nab"), texts("another", "b", "", "anna")
	b, k := saved(t, c), saved(t, d)
	for range 3 {
		wantStore(t, planBy(t, c), loaded(t, c.name, b))
		refused(t, "another bit", turnedBit(b, 999))
		wantStore(t, planBy(t, d), loaded(t, d.name, k))
		refused(t, "none", nil)
	}
}

// P20.2

func TestStoresOfSomeCollections(t *testing.T) {
	for _, c := range slices.Concat(someCollections(), longCollections()) {
		wantStore(t, planBy(t, c), stored(t, c))
	}
}

func TestStoreWrittenOut(t *testing.T) {
	s := stored(t, texts("the example", "ab", "b"))
	// The turned row is 100 100 1 99 0, by bits from the last one on 0 100 100 1 99; the row of documents 0 1 0 0 1.
	for c, want := range map[int]int{0: 0, 100: 1, 1: 3, 99: 4, 2: 3, 64: 1, 32: 1, 256: 1, 101: 4, 511: 5, 510: 3, 3: 4} {
		if got := s.Begin(api.Turned, c); got != want {
			t.Errorf("Begin(Turned, %d): %d, not %d", c, got, want)
		}
	}
	for c, want := range map[int]int{0: 0, 1: 3, 2: 3, 128: 3, 3: 5, 255: 5, 256: 0, -1: 0} {
		if got := s.Begin(api.Owners, c); got != want {
			t.Errorf("Begin(Owners, %d): %d, not %d", c, got, want)
		}
	}
	for c, want := range map[int]int{-1: 0, 0: 0, 1: 1, 2: 2, 99: 2, 100: 3, 101: 5, 257: 5, 258: 5, 259: 0} {
		if got := s.Below(c); got != want {
			t.Errorf("Below(%d): %d, not %d", c, got, want)
		}
	}
	for level, want := range []int{0, 0, 3, 3, 0, 0, 2, 1, 2} {
		if got := s.Ones(api.Turned, level); got != want {
			t.Errorf("Ones(Turned, %d): %d, not %d", level, got, want)
		}
	}
	if s.Ones(api.Owners, 7) != 2 || s.Ones(api.Owners, 6) != 0 || s.Ones(api.Owners, 8) != 0 {
		t.Errorf("Ones of Owners: %d, %d, %d", s.Ones(api.Owners, 7), s.Ones(api.Owners, 6), s.Ones(api.Owners, 8))
	}
}

// TestBeginIsWhereTheWayDownEnds goes down from the first place of level 0, as a cursor does.
func TestBeginIsWhereTheWayDownEnds(t *testing.T) {
	for _, c := range slices.Concat(someCollections(), longCollections()) {
		s := stored(t, c)
		pages := cached(t, s, 4)
		for _, k := range kinds {
			for x := range 1 << s.Levels(k) {
				at := 0
				for level := range s.Levels(k) {
					ones, _, e := s.Rank(pages, k, level, at)
					if e != api.OK {
						t.Fatal(e)
					}
					if x>>(s.Levels(k)-1-level)&1 == 1 {
						at = s.Len() - s.Ones(k, level) + ones
					} else {
						at -= ones
					}
				}
				if s.Begin(k, x) != at {
					t.Fatalf("%s: Begin(%d, %d): %d, not %d", c.name, k, x, s.Begin(k, x), at)
				}
			}
		}
	}
}

func TestDocsAreNew(t *testing.T) {
	for _, c := range someCollections() {
		s := stored(t, c)
		for range 2 {
			docs := s.Docs()
			for i, b := range docs {
				spoil(b, 0x5a)
				for k, other := range docs {
					if k > i && !bytes.Equal(other, c.docs[k]) {
						t.Fatalf("%s: documents %d and %d share bytes", c.name, i, k)
					}
				}
			}
			spoil(docs, []byte("another"))
			if !sameDocs(s.Docs(), c.docs) {
				t.Fatalf("%s: Docs %q", c.name, few(s.Docs()))
			}
		}
		wantKept(t, planBy(t, c), s)
	}
}

func TestTheImageHandedOutTurnsNothing(t *testing.T) {
	other := stored(t, parted("another", again("ba", 3000), 700))
	for _, c := range []collection{texts("the example", "ab", "b"), {"no documents", nil}, parted("three pages", scatteredBytes(5000, 11, 0, 41), 5000)} {
		p := planBy(t, c)
		s := stored(t, c)
		m := s.Image()
		for i := range allParts {
			spoil(m.Section(i), 0x5a)
		}
		for n := range m.Pages() {
			b, e := m.Page(n)
			if e != api.OK {
				t.Fatal(e)
			}
			spoil(b, 0x5a)
		}
		wantStore(t, p, s)
		*m = *other.Image()
		wantStore(t, p, s)
		*s.Image() = image.Image{}
		wantStore(t, p, s)
	}
}

func TestTheImageHasTheBytesThatWereLoaded(t *testing.T) {
	for _, c := range slices.Concat(someCollections(), longCollections()) {
		b := saved(t, c)
		m, e := image.Open(b)
		if e != api.OK {
			t.Fatal(e)
		}
		got := loaded(t, c.name, b).Image()
		if got.Pages() != m.Pages() || got.Sections() != m.Sections() {
			t.Fatalf("%s: %d pages, %d sections", c.name, got.Pages(), got.Sections())
		}
		for n := range m.Pages() {
			want, e := m.Page(n)
			page, f := got.Page(n)
			if e != api.OK || f != api.OK || !bytes.Equal(page, want) {
				t.Fatalf("%s: page %d: %v, %v", c.name, n, e, f)
			}
		}
		for i := range m.Sections() {
			if got.First(i) != m.First(i) || got.Size(i) != m.Size(i) {
				t.Fatalf("%s: section %d", c.name, i)
			}
		}
	}
}

// P20.3

func TestPagesWrittenOut(t *testing.T) {
	s := stored(t, parted("three pages", scatteredBytes(4999, 11, 0, 41), 4999))
	// The head, 14 bytes, 258 numbers, then three pages a level.
	for _, w := range []struct{ k, level, i, page int }{{0, 0, 0, 7}, {0, 0, 2047, 7}, {0, 0, 2048, 8}, {0, 0, 2049, 8}, {0, 0, 4095, 8}, {0, 0, 4096, 9}, {0, 0, 4999, 9}, {0, 1, 0, 10}, {0, 8, 0, 31}, {0, 8, 4999, 33}, {1, 0, 0, 34}, {1, 0, 4096, 36}, {1, 7, 0, 55}, {1, 7, 4999, 57}, {0, 0, 5000, -1}, {0, 0, -1, -1}, {0, 9, 0, -1}, {0, -1, 0, -1}, {1, 8, 0, -1}, {1, 7, 5000, -1}, {2, 0, 0, -1}, {-1, 0, 0, -1}} {
		if got := s.Page(api.RowKind(w.k), w.level, w.i); got != w.page {
			t.Errorf("Page(%d, %d, %d): %d, not %d", w.k, w.level, w.i, got, w.page)
		}
	}
	if s.Image().Pages() != 58 {
		t.Errorf("%d pages", s.Image().Pages())
	}
}

func TestRanksOfEveryPlaceOfAGreatCollection(t *testing.T) {
	c := parted("as much as may be", scatteredBytes(api.MaxText, 256, 0, 45), 256)
	p, s := planBy(t, c), stored(t, c)
	wantRanks(t, p, s, 1, everyPlace(len(p.symbols)))
	wantPages(t, p, s, everyPlace(len(p.symbols)))
	wantRanks(t, p, s, 40, jumping(len(p.symbols)))
}

func TestRankMissesOnceAPage(t *testing.T) {
	s := stored(t, parted("three pages", scatteredBytes(4999, 11, 0, 41), 4999))
	c := cached(t, s, 3)
	for _, w := range []struct {
		i    int
		miss bool
	}{{0, false}, {1, true}, {1, false}, {2, false}, {2047, false}, {2048, false}, {2049, true}, {2049, false}, {4095, false}, {4096, false}, {4097, true}, {4999, false}, {5000, false}, {1, false}, {2050, false}} {
		if _, miss, e := s.Rank(c, api.Turned, 8, w.i); miss != w.miss || e != api.OK {
			t.Errorf("Rank at %d: %v, %v", w.i, miss, e)
		}
	}
	if got := c.Stats(); got != (api.Stats{Hits: 8, Misses: 3, Held: 3}) {
		t.Errorf("%v", got)
	}
	for _, n := range []int{31, 32, 33} {
		if !c.Has(n) || c.Drop(n) {
			t.Errorf("page %d: there %v", n, c.Has(n))
		}
	}
}

func TestRankLooksAtNoPageAtBorders(t *testing.T) {
	for _, c := range slices.Concat(someCollections(), longCollections()) {
		p, s := planBy(t, c), stored(t, c)
		full := cached(t, s, 1)
		if _, _, e := full.Hold(0); e != api.OK {
			t.Fatal(e)
		}
		before := full.Stats()
		for _, k := range kinds {
			for level, bits := range p.levels[k] {
				ones := onesBy(bits)
				for i := 0; i <= s.Len(); i++ {
					if i%bitsAPage != 0 && i != s.Len() {
						continue
					}
					for _, pages := range []*cache.Cache{nil, full} {
						if got, miss, e := s.Rank(pages, k, level, i); got != ones[i] || miss || e != api.OK {
							t.Fatalf("%s: Rank(%d, %d, %d): %d, %v, %v, not %d", c.name, k, level, i, got, miss, e, ones[i])
						}
					}
				}
			}
		}
		if full.Stats() != before {
			t.Fatalf("%s: the cache is used: %v", c.name, full.Stats())
		}
	}
}

// noRank holds that a Rank answers this error alone.
func noRank(t *testing.T, s *Store, c *cache.Cache, k api.RowKind, level, i int, why api.Errno) {
	t.Helper()
	before := c.Stats()
	if got, miss, e := s.Rank(c, k, level, i); got != 0 || miss || e != why {
		t.Fatalf("Rank(%d, %d, %d): %d, %v, %v, not %v", k, level, i, got, miss, e, why)
	}
	if c.Stats() != before {
		t.Fatalf("Rank(%d, %d, %d) turns the cache: %v, not %v", k, level, i, c.Stats(), before)
	}
}

func TestRankRefusesPlacesAndLevels(t *testing.T) {
	for _, c := range []collection{texts("the example", "ab", "b"), {"no documents", nil}, {"one empty one", [][]byte{nil}}, parted("three pages", scatteredBytes(4999, 11, 0, 41), 4999), parted("just two pages", again("ab", 4095), 4095)} {
		s := stored(t, c)
		full := cached(t, s, 1)
		if _, _, e := full.Hold(0); e != api.OK {
			t.Fatal(e)
		}
		for _, pages := range []*cache.Cache{cached(t, s, 4), full, nil} {
			for _, k := range kinds {
				for level := range s.Levels(k) {
					for _, i := range append([]int{s.Len() + 1, s.Len() + 2, s.Len() + bitsAPage, (s.Len()/bitsAPage + 1) * bitsAPage}, extremes...) {
						noRank(t, s, pages, k, level, i, api.ErrArg)
					}
				}
				for _, level := range append([]int{s.Levels(k), s.Levels(k) + 1, 17, 19}, extremes...) {
					for _, i := range append([]int{0, 1, s.Len() / 2, s.Len(), bitsAPage}, extremes...) {
						noRank(t, s, pages, k, level, i, api.ErrArg)
					}
				}
			}
			for _, k := range otherKinds {
				for _, level := range append([]int{0, 1, 8}, extremes...) {
					for _, i := range append([]int{0, 1, s.Len()}, extremes...) {
						noRank(t, s, pages, k, level, i, api.ErrArg)
					}
				}
			}
		}
	}
}

func TestRankAnswersTheCachesErrors(t *testing.T) {
	s := stored(t, parted("three pages", scatteredBytes(4999, 11, 0, 41), 4999))
	full := cached(t, s, 2)
	for _, n := range []int{0, 8} {
		if _, _, e := full.Hold(n); e != api.OK {
			t.Fatal(e)
		}
	}
	short := cached(t, stored(t, texts("a shorter one", "ab")), 2)
	for _, i := range []int{1, 2047, 2049, 4095, 4097, 4999} {
		for _, k := range kinds {
			noRank(t, s, nil, k, 0, i, api.ErrNil)
			noRank(t, s, nil, k, 7, i, api.ErrNil)
			noRank(t, s, full, k, 1, i, api.ErrPin)
			noRank(t, s, full, k, 7, i, api.ErrPin)
		}
		noRank(t, s, short, api.Owners, 7, i, api.ErrNone)
	}
	// What is held already needs no room, and stays held.
	want := 0
	for bit := range 2500 {
		if level := s.Image().Section(turnedAt); level[bit/8]>>(bit%8)&1 == 1 {
			want++
		}
	}
	for range 2 {
		if got, miss, e := s.Rank(full, api.Turned, 0, 2500); got != want || miss || e != api.OK {
			t.Errorf("Rank in a held page: %d, %v, %v, not %d", got, miss, e, want)
		}
	}
	if got := full.Stats(); got != (api.Stats{Hits: 2, Misses: 2, Held: 2, Pinned: 2}) {
		t.Errorf("%v", got)
	}
	for _, n := range []int{0, 8} {
		if !full.Drop(n) || full.Drop(n) {
			t.Errorf("page %d isn't held once", n)
		}
	}
	if _, miss, e := s.Rank(full, api.Turned, 1, 1); !miss || e != api.OK {
		t.Errorf("Rank with room again: %v, %v", miss, e)
	}
}

func TestRankWithACacheOfAnImageLikeIt(t *testing.T) {
	c := parted("three pages", scatteredBytes(4999, 11, 0, 41), 4999)
	p, b := planBy(t, c), saved(t, c)
	s, like := loaded(t, c.name, b), loaded(t, c.name, b)
	m, e := image.Open(b)
	if e != api.OK {
		t.Fatal(e)
	}
	opened, e := cache.New(m, 2)
	if e != api.OK {
		t.Fatal(e)
	}
	for _, pages := range []*cache.Cache{cached(t, like, 2), opened} {
		twin := cached(t, s, 2)
		for _, k := range kinds {
			for level, bits := range p.levels[k] {
				ones := onesBy(bits)
				for _, i := range beside(len(p.symbols)) {
					wantRank(t, p, s, pages, twin, k, level, i, ones[i])
				}
			}
		}
	}
}

func TestTwoStoresBesideOneAnother(t *testing.T) {
	c, d := parted("one", scatteredBytes(4999, 11, 0, 41), 4999), parted("another", scatteredBytes(3000, 200, 0, 46), 100)
	p, q := planBy(t, c), planBy(t, d)
	s, u := stored(t, c), stored(t, d)
	one, other := cached(t, s, 2), cached(t, u, 2)
	oneTwin, otherTwin := cached(t, s, 2), cached(t, u, 2)
	for _, k := range kinds {
		for level := range p.levels[k] {
			ones, otherOnes := onesBy(p.levels[k][level]), onesBy(q.levels[k][level])
			for i := 0; i <= min(s.Len(), u.Len()); i += 7 {
				wantRank(t, p, s, one, oneTwin, k, level, i, ones[i])
				wantRank(t, q, u, other, otherTwin, k, level, i, otherOnes[i])
			}
		}
	}
	wantKept(t, p, s)
	wantKept(t, q, u)
}

func TestNilStore(t *testing.T) {
	var s *Store
	if s.Docs() != nil || s.Len() != 0 || s.Image() != nil {
		t.Errorf("%q, %d, %v", s.Docs(), s.Len(), s.Image() != nil)
	}
	c := cached(t, stored(t, texts("one", "ab")), 2)
	for _, x := range append([]int{0, 1, 2, 8, 9, 97, 255, 256, 511, 512, bitsAPage}, extremes...) {
		if s.Below(x) != 0 {
			t.Errorf("Below(%d): %d", x, s.Below(x))
		}
		for _, k := range append(kinds, otherKinds...) {
			if s.Levels(k) != 0 || s.Begin(k, x) != 0 || s.Ones(k, x) != 0 || s.Page(k, x, 0) != -1 || s.Page(k, 0, x) != -1 {
				t.Errorf("of kind %d, %d: %d, %d, %d, %d, %d", k, x, s.Levels(k), s.Begin(k, x), s.Ones(k, x), s.Page(k, x, 0), s.Page(k, 0, x))
			}
			for _, pages := range []*cache.Cache{nil, c} {
				noRank(t, s, pages, k, 0, x, api.ErrNil)
				noRank(t, s, pages, k, x, 0, api.ErrNil)
			}
		}
	}
}

// P20.4

// turnedRow answers bytes like b, of which those bits from this one on are others that mask has.
func turnedRow(b []byte, at int, mask uint32) []byte {
	k := slices.Clone(b)
	for bit := range 32 {
		if mask>>bit&1 == 1 {
			k[(at+bit)/8] ^= 1 << ((at + bit) % 8)
		}
	}
	return k
}

// rowsTurned holds that an image is refused with each of these rows of bits turned at each place of each page where it stands within the page.
func rowsTurned(t *testing.T, c collection, masks func(at int) []uint32) {
	t.Helper()
	b := saved(t, c)
	const pageSize = 264
	for from := 0; from < len(b); from += pageSize {
		for at := range 8 * pageSize {
			for _, mask := range masks(at) {
				if mask == 0 || at+32 > 8*pageSize && mask>>(8*pageSize-at) != 0 {
					continue
				}
				if s, e := Load(turnedRow(b, 8*from+at, mask)); s != nil || e != api.ErrForm {
					t.Fatalf("%s: page %d: bits from %d on by %x: %v, %v", c.name, from/pageSize, at, mask, s != nil, e)
				}
			}
		}
	}
}

func TestRowsTurnedWithinAPageAreRefused(t *testing.T) {
	// Each length is there at every eighth place, as all bits turned and as the ends of the row alone.
	lengths := func(at int) []uint32 {
		var l []uint32
		for n := at % 8; n < 32; n += 8 {
			l = append(l, 1<<n|1, math.MaxUint32>>n)
		}
		return l
	}
	some := func(at int) []uint32 {
		return []uint32{math.MaxUint32 >> (at % 32), uint32(at)*2654435761 | 1}
	}
	rowsTurned(t, collection{"no documents", nil}, lengths)
	rowsTurned(t, texts("the example", "ab", "b"), some)
	rowsTurned(t, parted("two pages a level", scatteredBytes(2999, 11, 0, 41), 2999), func(at int) []uint32 {
		if at%11 > 0 {
			return nil
		}
		return some(at)[at%2:][:1]
	})
}

// The examples of the chapter, and of the whole.

func TestExamples(t *testing.T) {
	x, e := index.Build([]byte("ab"), []byte("b"))
	if e != api.OK {
		t.Fatal(e)
	}
	b, e := Save(x)
	if e != api.OK {
		t.Fatal(e)
	}
	s, e := Load(b)
	if e != api.OK || s.Image().Sections() != 19 {
		t.Fatalf("%d sections, %v", s.Image().Sections(), e)
	}
	if docs := s.Docs(); len(docs) != 2 || string(docs[0]) != "ab" || string(docs[1]) != "b" {
		t.Errorf("%q", docs)
	}
	three := saved(t, texts("three documents", "banana", "ananas", "nab"))
	if loaded(t, "three documents", three).Image().Sections() != 19 {
		t.Error("the image of three documents")
	}
	for bit := 0; bit < 8*len(three); bit += 13 {
		refused(t, "one bit turned", turnedBit(three, bit))
	}
}
