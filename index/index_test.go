package index

import (
	"bytes"
	"math"
	"slices"
	"testing"

	"colophon/api"
	"colophon/find"
	"colophon/suffix"
	"colophon/text"
	"colophon/wave"
)

// extremes are counts of no documents.
var extremes = []int{0, -1, -2, -256, -api.MaxInts, math.MinInt32, math.MinInt, math.MinInt + 1}

// collection is documents by a name.
type collection struct {
	name string
	docs [][]byte
}

// texts answers a collection of these documents.
func texts(name string, docs ...string) collection {
	c := collection{name: name}
	for _, d := range docs {
		c.docs = append(c.docs, []byte(d))
	}
	return c
}

// parted answers documents of b, each so many bytes.
func parted(name string, b []byte, size int) collection {
	return collection{name, slices.Collect(slices.Chunk(b, size))}
}

// again answers n bytes of s, again and again.
func again(s string, n int) []byte {
	return bytes.Repeat([]byte(s), n/len(s)+1)[:n]
}

// scatteredBytes answers n bytes from this one on, of so many unlike ones, that look like no rule.
func scatteredBytes(n, unlike int, from byte, seed uint64) []byte {
	b := make([]byte, n)
	for i := range b {
		seed = seed*6364136223846793005 + 1442695040888963407
		b[i] = from + byte((seed>>33)%uint64(unlike))
	}
	return b
}

// joined answers these bytes one behind the other.
func joined(parts ...[]byte) []byte {
	return slices.Concat(parts...)
}

// everyByte answers each byte once.
func everyByte() []byte {
	b := make([]byte, 256)
	for i := range b {
		b[i] = byte(i)
	}
	return b
}

// words answers all texts of at most so many of these letters.
func words(letters string, longest int) [][]byte {
	all := [][]byte{{}}
	from := 0
	for range longest {
		to := len(all)
		for _, w := range all[from:to] {
			for i := range len(letters) {
				all = append(all, joined(w, []byte{letters[i]}))
			}
		}
		from = to
	}
	return all
}

// everyChoice calls f with each row of so many of these words.
func everyChoice(all [][]byte, many int, f func(docs [][]byte)) {
	if many == 0 {
		f(nil)
		return
	}
	everyChoice(all, many-1, func(docs [][]byte) {
		for _, w := range all {
			f(append(slices.Clone(docs), w))
		}
	})
}

// spoil lays x everywhere in l, its spare room too.
func spoil[T any](l []T, x T) {
	l = l[:cap(l)]
	for i := range l {
		l[i] = x
	}
}

// withRoom answers bytes like b, with a spare room filled by fill.
func withRoom(b []byte, fill byte) []byte {
	k := make([]byte, len(b), len(b)+5)
	copy(k, b)
	spoil(k[len(k):], fill)
	return k
}

// few answers the first numbers of l, so that a fault's text stays short.
func few[T any](l []T) []T {
	return l[:min(len(l), 20)]
}

// placesBy answers by looking everywhere where p stands.
func placesBy(docs [][]byte, p []byte) []api.Place {
	var l []api.Place
	for d, b := range docs {
		for at := range b {
			if bytes.HasPrefix(b[at:], p) {
				l = append(l, api.Place{Doc: d, At: at})
			}
		}
	}
	return l
}

// timesBy answers how often each document is among these places.
func timesBy(places []api.Place) []int {
	times := make([]int, api.MaxDocs)
	for _, p := range places {
		times[p.Doc]++
	}
	return times
}

// listBy answers the documents of these places, rising.
func listBy(places []api.Place) []int {
	var l []int
	for d, many := range timesBy(places) {
		if many > 0 {
			l = append(l, d)
		}
	}
	return l
}

// topBy answers the documents of these places with how often each is there: the one that has more ahead, those that have as many as they rise.
func topBy(places []api.Place) []api.Pair {
	var l []api.Pair
	for d, many := range timesBy(places) {
		if many > 0 {
			l = append(l, api.Pair{Symbol: d, Count: many})
		}
	}
	slices.SortStableFunc(l, func(x, y api.Pair) int { return y.Count - x.Count })
	return l
}

// made answers the index of a collection.
func made(t *testing.T, c collection) *Index {
	t.Helper()
	x, e := Build(c.docs...)
	if e != api.OK || x == nil {
		t.Fatalf("%s: Build of %d documents: %v, %v", c.name, len(c.docs), x != nil, e)
	}
	return x
}

// refused holds that Build refuses these documents.
func refused(t *testing.T, c collection) {
	t.Helper()
	if x, e := Build(c.docs...); x != nil || e != api.ErrMany {
		t.Errorf("%s: Build of %d documents: %v, %v", c.name, len(c.docs), x != nil, e)
	}
}

// counts answers of how many documents Top may be asked where n have the pattern: few, about n, far more.
func counts(n int) []int {
	l := []int{1, 2, n - 1, n, n + 1, 2 * n, api.MaxDocs, api.MaxDocs + 1, api.MaxInts, math.MaxInt32, 1 << 32, math.MaxInt - 1, math.MaxInt}
	l = slices.DeleteFunc(l, func(k int) bool { return k < 1 })
	slices.Sort(l)
	return slices.Compact(l)
}

// wantTop holds one answer of Top against all documents that have the pattern, the best first.
func wantTop(t *testing.T, c collection, x *Index, p []byte, k int, all []api.Pair) {
	t.Helper()
	if got, e := x.Top(p, k); e != api.OK || !slices.Equal(got, all[:min(k, len(all))]) {
		t.Fatalf("%s: %q: Top(%q, %d): %v, %v, not %v", c.name, few(c.docs), few(p), k, few(got), e, few(all[:min(k, len(all))]))
	}
}

// wantNoTop holds that Top refuses counts of no documents.
func wantNoTop(t *testing.T, x *Index, p []byte, why api.Errno) {
	t.Helper()
	for _, k := range extremes {
		if got, e := x.Top(p, k); len(got) != 0 || e != why {
			t.Fatalf("Top(%q, %d): %v, %v", few(p), k, few(got), e)
		}
	}
}

// wantAnswers holds Range, Count, List, Top and Places of a right pattern against these places.
func wantAnswers(t *testing.T, c collection, x *Index, p []byte, places []api.Place) {
	t.Helper()
	if a, b := x.Range(p); b-a != len(places) || a < 0 || a == b && a != 0 {
		t.Fatalf("%s: %q: Range(%q): %d, %d, of %d places", c.name, few(c.docs), few(p), a, b, len(places))
	}
	documents := listBy(places)
	if got, e := x.Count(p); e != api.OK || got != (api.Tally{Docs: len(documents), Times: len(places)}) {
		t.Fatalf("%s: %q: Count(%q): %v, %v, not %d, %d", c.name, few(c.docs), few(p), got, e, len(documents), len(places))
	}
	if got, e := x.List(p); e != api.OK || !slices.Equal(got, documents) {
		t.Fatalf("%s: %q: List(%q): %v, %v, not %v", c.name, few(c.docs), few(p), few(got), e, few(documents))
	}
	if got, e := x.Places(p); e != api.OK || !slices.Equal(got, places) {
		t.Fatalf("%s: %q: Places(%q): %v, %v, not %v", c.name, few(c.docs), few(p), few(got), e, few(places))
	}
	all := topBy(places)
	for _, k := range []int{1, len(all) - 1, len(all), math.MaxInt} {
		if k > 0 {
			wantTop(t, c, x, p, k, all)
		}
	}
}

// wantPattern holds the answers about a right pattern against looking everywhere.
func wantPattern(t *testing.T, c collection, x *Index, p []byte) {
	t.Helper()
	wantAnswers(t, c, x, p, placesBy(c.docs, p))
}

// wantNowhere holds that a right pattern stands nowhere.
func wantNowhere(t *testing.T, c collection, x *Index, p []byte) {
	t.Helper()
	if a, b := x.Range(p); a != 0 || b != 0 {
		t.Fatalf("%s: Range(%q): %d, %d", c.name, few(p), a, b)
	}
	wantAnswers(t, c, x, p, nil)
}

// wantRefused holds that all refuse a pattern with this error, of each count of documents.
func wantRefused(t *testing.T, x *Index, p []byte, why api.Errno) {
	t.Helper()
	if a, b := x.Range(p); a != 0 || b != 0 {
		t.Fatalf("Range of %d bytes: %d, %d", len(p), a, b)
	}
	if got, e := x.Count(p); got != (api.Tally{}) || e != why {
		t.Fatalf("Count of %d bytes: %v, %v, not %v", len(p), got, e, why)
	}
	if got, e := x.List(p); len(got) != 0 || e != why {
		t.Fatalf("List of %d bytes: %v, %v, not %v", len(p), few(got), e, why)
	}
	if got, e := x.Places(p); len(got) != 0 || e != why {
		t.Fatalf("Places of %d bytes: %v, %v, not %v", len(p), few(got), e, why)
	}
	for _, k := range counts(3) {
		if got, e := x.Top(p, k); len(got) != 0 || e != why {
			t.Fatalf("Top of %d bytes, %d: %v, %v, not %v", len(p), k, few(got), e, why)
		}
	}
	wantNoTop(t, x, p, why)
}

// unlike answers these patterns, each once.
func unlike(all [][]byte) [][]byte {
	slices.SortFunc(all, bytes.Compare)
	return slices.CompactFunc(all, bytes.Equal)
}

// patterns answers all unlike patterns of so many bytes at most that stand in a document.
func patterns(c collection, longest int) [][]byte {
	var ps [][]byte
	for _, d := range c.docs {
		for i := range d {
			for many := 1; many <= min(longest, len(d)-i); many++ {
				ps = append(ps, d[i:i+many])
			}
		}
	}
	return unlike(ps)
}

// near answers the like of a pattern that may stand nowhere: with another byte behind it or ahead of it, or in it.
func near(p []byte) [][]byte {
	last := len(p) - 1
	return [][]byte{
		joined(p, p[:1]), joined(p, []byte{p[last] + 1}), joined(p, []byte{0}), joined([]byte{255}, p), joined(p[last:], p), joined(p[:last], []byte{p[last] + 1}), joined([]byte{p[0] - 1}, p[1:]),
	}
}

// borders answers unlike patterns that would stand across the borders of the documents, were they one text, with and without a byte like the end between.
func borders(c collection) [][]byte {
	var ps [][]byte
	for d := 1; d < len(c.docs); d++ {
		ahead, behind := c.docs[d-1], c.docs[d]
		ahead, behind = ahead[max(0, len(ahead)-2):], behind[:min(2, len(behind))]
		ps = append(ps, joined(ahead, []byte{byte(d - 1)}, behind), joined(ahead, []byte{byte(d - 1)}), joined([]byte{byte(d - 1)}, behind))
		if len(ahead) > 0 && len(behind) > 0 {
			ps = append(ps, joined(ahead, behind), joined(ahead[len(ahead)-1:], behind[:1]))
		}
	}
	return unlike(ps)
}

// ends answers unlike ones of each document's beginnings and ends of some lengths, and what is longer than it.
func ends(c collection) [][]byte {
	var ps [][]byte
	for _, d := range c.docs {
		n := min(len(d), api.MaxPattern)
		for _, many := range []int{1, 2, n / 2, n - 1, n} {
			if many >= 1 && many <= n {
				ps = append(ps, d[:many], d[len(d)-many:])
			}
		}
		if n > 0 && n < api.MaxPattern {
			ps = append(ps, joined(d, d[:1]), joined(d[len(d)-1:], d), joined(d, []byte{0}))
		}
	}
	return unlike(ps)
}

// spread answers at most so many of these patterns, from the first ones to the last ones.
func spread(ps [][]byte, most int) [][]byte {
	every := len(ps)/most + 1
	var l [][]byte
	for i := 0; i < len(ps); i += every {
		l = append(l, ps[i])
	}
	return l
}

// check holds the answers about many patterns of a collection against looking everywhere: all of so many bytes at most that stand in it, the like of these, the documents' ends and borders, and each byte alone.
func check(t *testing.T, c collection, x *Index, longest int) {
	t.Helper()
	for _, p := range patterns(c, longest) {
		wantPattern(t, c, x, p)
		for _, q := range near(p) {
			wantPattern(t, c, x, q)
		}
	}
	for _, p := range slices.Concat(ends(c), borders(c)) {
		wantPattern(t, c, x, p)
	}
	checkSome(t, c, x)
	for b := range 256 {
		wantPattern(t, c, x, []byte{byte(b)})
	}
}

// checkSome holds the answers about some patterns of a collection against looking everywhere.
func checkSome(t *testing.T, c collection, x *Index) {
	t.Helper()
	for _, p := range slices.Concat(spread(ends(c), 12), spread(borders(c), 6), [][]byte{{'a'}, {0}, {255}, {0, 0}, []byte("ab")}) {
		wantPattern(t, c, x, p)
	}
	wantRefused(t, x, nil, api.ErrQuery)
	wantNoTop(t, x, []byte("a"), api.ErrQuery)
}

// someCollections answers collections of few and of many documents.
func someCollections() []collection {
	return []collection{
		{"no documents", nil}, {"one nil one", [][]byte{nil}}, {"one empty one", [][]byte{{}}}, {"empty ones alone", [][]byte{nil, {}, nil}},
		texts("the example", "banana", "ananas", "nab"), texts("one", "abracadabra"), texts("one byte", "a"), texts("empty ones", "", "ab", "", "", "b", ""), texts("an empty one last", "ab", "ba", ""), texts("like ones", "abab", "abab", "abab", "bab"),
		texts("beginnings", "a", "ab", "aba", "abab", "ababa"), texts("ends", "ababa", "baba", "aba", "ba", "a"), texts("alike", "a", "aaaa", "aa", "aaaaaaaa", "aaa"), texts("nothing in common", "abc", "def", "ghi", "jkl"),
		texts("bytes like ends' numbers", "\x00\x01\x02", "\x01\x00", "\x02\x02\x00\x01", "\x00"), texts("the greatest byte", "\xff\xff", "\xff\x00\xff", "\x00\xff\xff\xff"), texts("the least byte", "\x00\x00\x00", "", "\x00", "\x00\x00"), texts("across borders", "xa", "bx", "ab", "b", "a"),
		parted("each byte", everyByte(), 16), {"each byte twice", [][]byte{everyByte(), nil, everyByte()}}, parted("two", scatteredBytes(200, 2, 'a', 1), 37), parted("three", scatteredBytes(200, 3, 0, 2), 11), parted("bytes", scatteredBytes(300, 256, 0, 3), 90), parted("one a document", scatteredBytes(60, 4, 'x', 4), 1),
		{"many empty ones", append(make([][]byte, 100), []byte("ab"), nil, []byte("ba"))}, parted("as many as may be", scatteredBytes(2*api.MaxDocs, 2, 'a', 5), 2),
	}
}

// greatCollections answers collections of as much as may be.
func greatCollections() []collection {
	uneven := collection{name: "one letter, uneven"}
	for d := range api.MaxDocs {
		uneven.docs = append(uneven.docs, again("a", d*2))
	}
	long := collection{"one long, many short", [][]byte{scatteredBytes(api.MaxText-255, 2, 'a', 21)}}
	for d := range api.MaxDocs - 1 {
		long.docs = append(long.docs, []byte{'a' + byte(d%3)})
	}
	return []collection{
		parted("two letters", scatteredBytes(api.MaxText, 2, 'a', 22), 256), parted("bytes", scatteredBytes(api.MaxText, 256, 0, 23), 256), parted("like ones", again("abcab", api.MaxText), 256), parted("one letter", again("a", api.MaxText), 256),
		parted("one document", scatteredBytes(api.MaxText, 3, 'a', 24), api.MaxText), parted("one document of one letter", again("\xff", api.MaxText), api.MaxText), parted("two documents", again("ab", api.MaxText), api.MaxText/2), parted("three documents", scatteredBytes(api.MaxText, 4, 0, 25), 30000),
		uneven, long, {"all empty but the last one", append(make([][]byte, api.MaxDocs-1), scatteredBytes(api.MaxText, 2, 0, 26))}, {"all empty but the first one", append([][]byte{again("aab", api.MaxText)}, make([][]byte, api.MaxDocs-1)...)},
	}
}

// orderBy answers the order of all suffixes of a list by comparing them.
func orderBy(s []int) []int {
	sa := make([]int, len(s))
	for i := range sa {
		sa[i] = i
	}
	slices.SortFunc(sa, func(a, b int) int { return slices.Compare(s[a:], s[b:]) })
	return sa
}

// symbol is one of a collection's, and where it stands.
type symbol struct{ number, doc, at int }

// symbolsBy answers a collection's symbols by layer 8's words.
func symbolsBy(docs [][]byte) []symbol {
	var all []symbol
	for d, b := range docs {
		for at, x := range b {
			all = append(all, symbol{len(docs) + int(x), d, at})
		}
		all = append(all, symbol{d, d, len(b)})
	}
	return all
}

// numbersOf answers the symbols alone.
func numbersOf(all []symbol) []int {
	l := make([]int, len(all))
	for i, s := range all {
		l[i] = s.number
	}
	return l
}

// wantText holds the collection of an index.
func wantText(t *testing.T, c collection, x *text.Text) {
	t.Helper()
	all := symbolsBy(c.docs)
	if x == nil || x.Docs() != len(c.docs) || x.Len() != len(all) || x.Alphabet() != len(c.docs)+256 || x.Start(len(c.docs)) != len(all) {
		t.Fatalf("%s: Text: %v, %d documents, %d symbols below %d, not %d, %d, %d", c.name, x != nil, x.Docs(), x.Len(), x.Alphabet(), len(c.docs), len(all), len(c.docs)+256)
	}
	if !slices.Equal(x.Symbols(), numbersOf(all)) {
		t.Fatalf("%s: Text has other symbols", c.name)
	}
	for i, s := range all {
		if d, at := x.Doc(i); d != s.doc || at != s.at {
			t.Fatalf("%s: Text: symbol %d: %d, %d, not %d, %d", c.name, i, d, at, s.doc, s.at)
		}
	}
	for d, b := range c.docs {
		if !bytes.Equal(x.Bytes(d), b) {
			t.Fatalf("%s: Text: document %d: %q", c.name, d, few(x.Bytes(d)))
		}
	}
}

// wantFinder holds the finder of an index by layer 15's words: a place that isn't a multiple of 8 is found by as many goings as it is behind one.
func wantFinder(t *testing.T, c collection, f *find.Finder, s, sa []int) {
	t.Helper()
	if (f == nil) != (len(c.docs) == 0) || f.Len() != len(sa) {
		t.Fatalf("%s: Finder: %v, of %d", c.name, f != nil, f.Len())
	}
	at, e := suffix.Turn(sa)
	if e != api.OK {
		t.Fatalf("%s: %v", c.name, e)
	}
	n := len(sa)
	for i, p := range sa {
		if got, goings := f.Place(i); got != p || goings != p%8 {
			t.Fatalf("%s: Finder: Place(%d): %d, %d, not %d, %d", c.name, i, got, goings, p, p%8)
		}
		if got := f.Before(i); got != at[(p+n-1)%n] {
			t.Fatalf("%s: Finder: Before(%d): %d", c.name, i, got)
		}
	}
	// Its numbers are the symbols: an end too stands where it stands.
	for _, k := range []int{0, n / 3, n / 2, n - 2, n - 1} {
		if k >= 0 && k < n {
			a, b := f.Range(s[k:])
			if a != at[k] || b != a+1 {
				t.Fatalf("%s: Finder: the suffix at %d: from %d ahead of %d, not %d", c.name, k, a, b, at[k])
			}
		}
	}
}

// wantMatrix holds the matrix of an index: of the document of each suffix, with a level for each of the eight bits of 255.
func wantMatrix(t *testing.T, c collection, m *wave.Matrix, sa []int) {
	t.Helper()
	if m == nil || m.Len() != len(sa) || len(m.Levels()) != 8 {
		t.Fatalf("%s: Matrix: %v, of %d, %d levels", c.name, m != nil, m.Len(), len(m.Levels()))
	}
	for k, v := range m.Levels() {
		if v.Len() != len(sa) {
			t.Fatalf("%s: Matrix: level %d: %d bits, not %d", c.name, k, v.Len(), len(sa))
		}
	}
	all, had := symbolsBy(c.docs), make([]int, api.MaxDocs)
	for i, p := range sa {
		d := all[p].doc
		if m.At(i) != d || m.Rank(d, i) != had[d] || m.Select(d, had[d]) != i {
			t.Fatalf("%s: Matrix: at %d: %d, %d ahead, not %d, %d", c.name, i, m.At(i), m.Rank(d, i), d, had[d])
		}
		had[d]++
	}
	for d, many := range had {
		if m.Rank(d, len(sa)) != many {
			t.Fatalf("%s: Matrix: document %d: %d, not %d", c.name, d, m.Rank(d, len(sa)), many)
		}
	}
	if m.Rank(api.MaxDocs, len(sa)) != 0 || m.Below(0, len(sa), api.MaxDocs) != len(sa) {
		t.Fatalf("%s: Matrix: more than %d", c.name, api.MaxDocs-1)
	}
}

// wantParts holds Text, Finder and Matrix of an index; the order of its suffixes is sa.
func wantParts(t *testing.T, c collection, x *Index, sa []int) {
	t.Helper()
	wantText(t, c, x.Text())
	wantFinder(t, c, x.Finder(), numbersOf(symbolsBy(c.docs)), sa)
	wantMatrix(t, c, x.Matrix(), sa)
}

// P19.1

func TestBuildOfNoDocuments(t *testing.T) {
	for _, docs := range [][][]byte{nil, {}, make([][]byte, 0, 9), [][]byte{[]byte("a")}[:0]} {
		c := collection{"no documents", docs}
		x := made(t, c)
		wantParts(t, c, x, nil)
		for _, p := range words("ab\x00\xff", 3)[1:] {
			wantNowhere(t, c, x, p)
		}
	}
	x, e := Build()
	if e != api.OK || x.Finder() != nil || x.Text() == nil || x.Text().Docs() != 0 || x.Matrix() == nil || x.Matrix().Len() != 0 {
		t.Errorf("Build(): %v, Finder %v", e, x.Finder() != nil)
	}
}

func TestBuildOfEmptyDocuments(t *testing.T) {
	for _, many := range []int{1, 2, 3, 9, 64, 65, api.MaxDocs - 1, api.MaxDocs} {
		for _, d := range [][]byte{nil, {}, make([]byte, 0, 9), []byte("abc")[:0]} {
			c := collection{"empty ones", slices.Repeat([][]byte{d}, many)}
			x := made(t, c)
			wantParts(t, c, x, orderBy(numbersOf(symbolsBy(c.docs))))
			for b := range 256 {
				wantNowhere(t, c, x, []byte{byte(b)})
			}
			wantNowhere(t, c, x, []byte{0, 1})
			wantNowhere(t, c, x, make([]byte, api.MaxPattern))
		}
	}
}

func TestBuildOfEachNumberOfDocuments(t *testing.T) {
	for many := range api.MaxDocs + 1 {
		for _, d := range []string{"", "a"} {
			c := collection{"alike", slices.Repeat([][]byte{[]byte(d)}, many)}
			x := made(t, c)
			if x.Text().Docs() != many || x.Text().Len() != many*(len(d)+1) || x.Finder().Len() != x.Text().Len() || x.Matrix().Len() != x.Text().Len() {
				t.Fatalf("%d of %q: %d documents, %d, %d, %d symbols", many, d, x.Text().Docs(), x.Text().Len(), x.Finder().Len(), x.Matrix().Len())
			}
			wantPattern(t, c, x, []byte("a"))
			wantNowhere(t, c, x, []byte("aa"))
		}
	}
}

func TestBuildRefusesMoreDocumentsThanMayBe(t *testing.T) {
	for _, many := range []int{api.MaxDocs + 1, api.MaxDocs + 2, 2 * api.MaxDocs, 1000, api.MaxText, api.MaxText + 1} {
		refused(t, collection{"nil ones", make([][]byte, many)})
		refused(t, collection{"empty ones", slices.Repeat([][]byte{{}}, many)})
		refused(t, collection{"one byte each", slices.Repeat([][]byte{{'a'}}, many)})
		refused(t, collection{"the last one alone not empty", append(make([][]byte, many-1), []byte("ab"))})
	}
}

func TestBuildRefusesMoreBytesThanMayBe(t *testing.T) {
	whole := make([]byte, 1<<20)
	for _, n := range []int{api.MaxText + 1, api.MaxText + 2, 2 * api.MaxText, 1 << 20} {
		refused(t, collection{"one document", [][]byte{whole[:n]}})
		refused(t, collection{"the first one long", [][]byte{whole[:n-1], whole[:1]}})
		refused(t, collection{"the last one long", [][]byte{whole[:1], nil, whole[:n-1]}})
		refused(t, collection{"halves", [][]byte{whole[:n/2], whole[:n-n/2]}})
		refused(t, collection{"empty ones beside", append([][]byte{nil, whole[:n]}, make([][]byte, api.MaxDocs-2)...)})
	}
	refused(t, parted("as many documents as may be", whole[:api.MaxText+1], 257))
	refused(t, collection{"257 in each", slices.Repeat([][]byte{whole[:257]}, api.MaxDocs)})
	refused(t, collection{"as many bytes as may be, and a document more", append(slices.Repeat([][]byte{whole[:256]}, api.MaxDocs), nil)})
	refused(t, collection{"both", slices.Repeat([][]byte{whole[:256]}, api.MaxDocs+1)})
}

func TestBuildOfAsManyBytesAsMayBe(t *testing.T) {
	for _, c := range []collection{
		{"one document", [][]byte{make([]byte, api.MaxText)}}, {"one less", [][]byte{make([]byte, api.MaxText-1)}}, parted("each as long", scatteredBytes(api.MaxText, 256, 0, 6), 256),
		{"one and one", [][]byte{scatteredBytes(api.MaxText-1, 2, 'a', 7), []byte("a")}}, {"among empty ones", append(make([][]byte, api.MaxDocs-1), again("ab", api.MaxText))},
	} {
		x := made(t, c)
		sa, e := suffix.Array(numbersOf(symbolsBy(c.docs)), len(c.docs)+256)
		if e != api.OK {
			t.Fatal(e)
		}
		wantParts(t, c, x, sa)
		for _, p := range [][]byte{{0}, {0, 0}, make([]byte, api.MaxPattern), []byte("ab"), {255, 254}} {
			wantPattern(t, c, x, p)
		}
		refused(t, collection{c.name + " and a byte more", append(slices.Clone(c.docs), make([]byte, api.MaxText+1-x.Text().Len()+len(c.docs)))})
	}
}

func TestTextFinderAndMatrixOfSomeCollections(t *testing.T) {
	for _, c := range someCollections() {
		wantParts(t, c, made(t, c), orderBy(numbersOf(symbolsBy(c.docs))))
	}
}

func TestTextFinderAndMatrixOfEveryShortCollection(t *testing.T) {
	for many := range 4 {
		everyChoice(words("a\x00", 2), many, func(docs [][]byte) {
			c := collection{"short", docs}
			wantParts(t, c, made(t, c), orderBy(numbersOf(symbolsBy(docs))))
		})
	}
}

func TestTheMatrixHasAsManyLevelsForFewDocumentsAsForMany(t *testing.T) {
	for many := range api.MaxDocs + 1 {
		x := made(t, collection{"empty ones", make([][]byte, many)})
		if m := x.Matrix(); len(m.Levels()) != 8 || many > 0 && (m.At(many-1) != many-1 || m.At(many) != -1) {
			t.Errorf("%d documents: %d levels", many, len(x.Matrix().Levels()))
		}
	}
}

// P19.2

func TestRight(t *testing.T) {
	for n := range 3 * api.MaxPattern {
		for _, b := range []byte{0, 'a', 255} {
			if got := Right(bytes.Repeat([]byte{b}, n)); got != (n >= 1 && n <= 256) {
				t.Errorf("Right of %d bytes %d: %v", n, b, got)
			}
		}
	}
	for _, n := range []int{1 << 10, api.MaxText, api.MaxText + 1, api.MaxText + 2, api.MaxText + 256, 1 << 24} {
		if Right(make([]byte, n)) {
			t.Errorf("Right of %d bytes", n)
		}
	}
	whole := make([]byte, 2*api.MaxPattern)
	if Right(nil) || Right([]byte{}) || Right(whole[:0]) || Right(whole[5:5]) || !Right(whole[:1]) || !Right(whole[1:257]) || Right(whole[1:258]) {
		t.Error("Right of pieces")
	}
}

func TestAnswersWrittenOut(t *testing.T) {
	c := texts("the example", "banana", "ananas", "nab")
	x := made(t, c)
	for _, w := range []struct {
		p      string
		count  api.Tally
		list   []int
		top    []api.Pair
		places []api.Place
	}{
		{"a", api.Tally{Docs: 3, Times: 7}, []int{0, 1, 2}, []api.Pair{{Symbol: 0, Count: 3}, {Symbol: 1, Count: 3}, {Symbol: 2, Count: 1}}, []api.Place{{Doc: 0, At: 1}, {Doc: 0, At: 3}, {Doc: 0, At: 5}, {Doc: 1, At: 0}, {Doc: 1, At: 2}, {Doc: 1, At: 4}, {Doc: 2, At: 1}}},
		{"an", api.Tally{Docs: 2, Times: 4}, []int{0, 1}, []api.Pair{{Symbol: 0, Count: 2}, {Symbol: 1, Count: 2}}, []api.Place{{Doc: 0, At: 1}, {Doc: 0, At: 3}, {Doc: 1, At: 0}, {Doc: 1, At: 2}}},
		{"na", api.Tally{Docs: 3, Times: 5}, []int{0, 1, 2}, []api.Pair{{Symbol: 0, Count: 2}, {Symbol: 1, Count: 2}, {Symbol: 2, Count: 1}}, []api.Place{{Doc: 0, At: 2}, {Doc: 0, At: 4}, {Doc: 1, At: 1}, {Doc: 1, At: 3}, {Doc: 2, At: 0}}},
		{"b", api.Tally{Docs: 2, Times: 2}, []int{0, 2}, []api.Pair{{Symbol: 0, Count: 1}, {Symbol: 2, Count: 1}}, []api.Place{{Doc: 0, At: 0}, {Doc: 2, At: 2}}},
		{"s", api.Tally{Docs: 1, Times: 1}, []int{1}, []api.Pair{{Symbol: 1, Count: 1}}, []api.Place{{Doc: 1, At: 5}}},
		{"nab", api.Tally{Docs: 1, Times: 1}, []int{2}, []api.Pair{{Symbol: 2, Count: 1}}, []api.Place{{Doc: 2, At: 0}}},
		{"banana", api.Tally{Docs: 1, Times: 1}, []int{0}, []api.Pair{{Symbol: 0, Count: 1}}, []api.Place{{Doc: 0, At: 0}}},
		{"anana", api.Tally{Docs: 2, Times: 2}, []int{0, 1}, []api.Pair{{Symbol: 0, Count: 1}, {Symbol: 1, Count: 1}}, []api.Place{{Doc: 0, At: 1}, {Doc: 1, At: 0}}},
		{"aa", api.Tally{}, nil, nil, nil}, {"bananaa", api.Tally{}, nil, nil, nil}, {"ananasnab", api.Tally{}, nil, nil, nil}, {"sn", api.Tally{}, nil, nil, nil}, {"a\x00", api.Tally{}, nil, nil, nil}, {"\x01", api.Tally{}, nil, nil, nil}, {"x", api.Tally{}, nil, nil, nil},
	} {
		p := []byte(w.p)
		wantAnswers(t, c, x, p, w.places)
		count, e := x.Count(p)
		list, f := x.List(p)
		top, g := x.Top(p, 3)
		if e != api.OK || f != api.OK || g != api.OK || count != w.count || !slices.Equal(list, w.list) || !slices.Equal(top, w.top) {
			t.Errorf("%q: %v, %v, %v", w.p, count, list, top)
		}
	}
}

func TestOneOverTheOther(t *testing.T) {
	c := texts("one over the other", "aaaa", "", "aba", "abababa", "aaaa")
	x := made(t, c)
	for p, want := range map[string][]api.Place{
		"aa": {{Doc: 0, At: 0}, {Doc: 0, At: 1}, {Doc: 0, At: 2}, {Doc: 4, At: 0}, {Doc: 4, At: 1}, {Doc: 4, At: 2}}, "aaa": {{Doc: 0, At: 0}, {Doc: 0, At: 1}, {Doc: 4, At: 0}, {Doc: 4, At: 1}}, "aaaa": {{Doc: 0, At: 0}, {Doc: 4, At: 0}}, "aaaaa": nil,
		"aba": {{Doc: 2, At: 0}, {Doc: 3, At: 0}, {Doc: 3, At: 2}, {Doc: 3, At: 4}}, "ababa": {{Doc: 3, At: 0}, {Doc: 3, At: 2}},
	} {
		wantAnswers(t, c, x, []byte(p), want)
	}
	n := 2 * api.MaxPattern
	c = collection{"one letter", [][]byte{again("a", n), again("a", n-1), nil, again("a", api.MaxPattern)}}
	x = made(t, c)
	for m := 1; m <= api.MaxPattern; m++ {
		count, e := x.Count(again("a", m))
		if want := (api.Tally{Docs: 3, Times: n - m + 1 + n - m + api.MaxPattern - m + 1}); e != api.OK || count != want {
			t.Fatalf("%d letters: %v, %v, not %v", m, count, e, want)
		}
		wantPattern(t, c, x, again("a", m))
	}
}

func TestEveryPatternOfSomeCollections(t *testing.T) {
	for _, c := range someCollections() {
		check(t, c, made(t, c), 6)
	}
}

func TestEveryShortPatternOfEveryShortCollection(t *testing.T) {
	for _, w := range []struct {
		letters       string
		many, longest int
	}{{"ab", 0, 0}, {"ab", 1, 7}, {"ab", 2, 4}, {"ab", 3, 3}, {"ab", 4, 2}, {"ab", 6, 1}, {"\x00\xffa", 1, 5}, {"\x00\xffa", 2, 2}, {"\x00\xff", 3, 2}, {"\x00\x01a", 3, 1}, {"a", 5, 4}} {
		ps := words(w.letters, w.longest+1)[1:]
		everyChoice(words(w.letters, w.longest), w.many, func(docs [][]byte) {
			c := collection{"short", docs}
			x := made(t, c)
			for _, p := range ps {
				wantPattern(t, c, x, p)
			}
		})
	}
}

func TestPatternsOfEachLength(t *testing.T) {
	long := scatteredBytes(1500, 2, 'a', 31)
	c := collection{"each length", [][]byte{long, long[:api.MaxPattern], again("ab", 700), long[1 : api.MaxPattern-1], nil, long[900:], again("a", api.MaxPattern), again("a", api.MaxPattern+1), long[:api.MaxPattern+1]}}
	x := made(t, c)
	for m := 1; m <= api.MaxPattern; m++ {
		for _, p := range [][]byte{long[:m], long[len(long)-m:], long[700 : 700+m], again("ab", m), again("ba", m), again("a", m), again("c", m), joined(long[:m-1], []byte("c")), joined([]byte("c"), long[:m-1])} {
			wantPattern(t, c, x, p)
		}
	}
	for _, m := range []int{257, 258, 300, 512, 600, 700} {
		for _, p := range [][]byte{long[:m], long[len(long)-m:], again("ab", m), again("a", m), again("c", m)} {
			wantRefused(t, x, p, api.ErrQuery)
		}
	}
}

func TestPatternsAtTheBoundOfTheirLength(t *testing.T) {
	for _, n := range []int{api.MaxPattern - 1, api.MaxPattern, api.MaxPattern + 1, api.MaxPattern + 2} {
		d := scatteredBytes(n, 256, 0, uint64(n))
		c := collection{"about the bound", [][]byte{d, nil, d, d[1:], d[:n-1]}}
		x := made(t, c)
		for _, p := range [][]byte{d[:api.MaxPattern-1], d[n-api.MaxPattern+1:], again("a", api.MaxPattern)} {
			wantPattern(t, c, x, p)
		}
		if n >= api.MaxPattern {
			wantPattern(t, c, x, d[:api.MaxPattern])
			wantPattern(t, c, x, d[n-api.MaxPattern:])
		} else {
			wantNowhere(t, c, x, joined(d, d[:1])) // as long as may be, and longer than each document
		}
		if n > api.MaxPattern {
			wantRefused(t, x, d, api.ErrQuery)
		}
	}
}

func TestAcrossBordersAPatternStandsNowhere(t *testing.T) {
	c := texts("borders", "ab", "cd", "", "ef", "\x03", "g")
	x := made(t, c)
	for _, p := range []string{"bc", "abcd", "abc", "bcd", "de", "cdef", "f\x03", "\x03g", "f\x03g", "b\x00c", "b\x00", "\x00c", "d\x01e", "d\x01\x02e", "\x01\x02", "f\x03\x03", "ga", "g\x05", "gab", "\x05", "abab"} {
		wantNowhere(t, c, x, []byte(p))
	}
	wantAnswers(t, c, x, []byte("\x03"), []api.Place{{Doc: 4, At: 0}})
	for many := 1; many <= api.MaxDocs; many += 5 {
		c := collection{"like ones", slices.Repeat([][]byte{[]byte("ab")}, many)}
		x := made(t, c)
		for _, p := range append(borders(c), []byte("ba"), []byte("b"), []byte("ab"), []byte{byte(many)}, []byte{byte(many - 1)}) {
			wantPattern(t, c, x, p)
		}
	}
}

func TestEachByteInAndBesideDocuments(t *testing.T) {
	for b := range 256 {
		one, other := byte(b), byte(b+1)
		c := collection{"one byte and the next", [][]byte{{one}, {one, one, other}, {other}, nil, {other, one}}}
		x := made(t, c)
		for _, p := range [][]byte{{one}, {other}, {one, other}, {other, one}, {one, one}, {other, other}, {byte(b - 1)}, {byte(b - 5)}, {byte(b + 5)}, {one, one, other}} {
			wantPattern(t, c, x, p)
		}
	}
}

func TestTopOfEachCount(t *testing.T) {
	c := texts("uneven", "ab", "abab", "", "ab", "ababab", "b", "abab", "abxab", "ab")
	all := []api.Pair{{Symbol: 4, Count: 3}, {Symbol: 1, Count: 2}, {Symbol: 6, Count: 2}, {Symbol: 7, Count: 2}, {Symbol: 0, Count: 1}, {Symbol: 3, Count: 1}, {Symbol: 8, Count: 1}}
	x := made(t, c)
	for k := 1; k < 20; k++ {
		wantTop(t, c, x, []byte("ab"), k, all)
	}
	for _, k := range counts(len(all)) {
		wantTop(t, c, x, []byte("ab"), k, all)
		wantTop(t, c, x, []byte("q"), k, nil)
		wantTop(t, c, x, []byte("x"), k, []api.Pair{{Symbol: 7, Count: 1}})
	}
	for _, p := range []string{"ab", "q", "x", "a"} {
		wantNoTop(t, x, []byte(p), api.ErrQuery)
	}
}

func TestOfDocumentsThatHaveItAsOftenTheLesserIsFirst(t *testing.T) {
	for _, often := range []func(d int) int{
		func(d int) int { return 1 }, func(d int) int { return d % 2 }, func(d int) int { return d % 3 }, func(d int) int { return 5 - d%5 }, func(d int) int { return d / 16 }, func(d int) int { return 16 - d/16 }, func(d int) int { return d * 7919 % 11 },
	} {
		c := collection{name: "as often"}
		for d := range api.MaxDocs {
			c.docs = append(c.docs, again("ax", 2*often(d)))
		}
		x := made(t, c)
		var all []api.Pair
		for many := api.MaxDocs; many > 0; many-- {
			for d := range api.MaxDocs {
				if often(d) == many {
					all = append(all, api.Pair{Symbol: d, Count: many})
				}
			}
		}
		for k := 1; k <= api.MaxDocs+1; k++ {
			wantTop(t, c, x, []byte("a"), k, all)
		}
		wantPattern(t, c, x, []byte("a"))
		wantPattern(t, c, x, []byte("xa"))
	}
}

func TestGreatCollectionsHeldAgainstLooking(t *testing.T) {
	for _, c := range greatCollections() {
		x := made(t, c)
		whole := joined(c.docs...)
		for _, m := range []int{1, 2, 3, 8, 30, api.MaxPattern} {
			for k := range 7 {
				at := k * 7919 * m % (len(whole) - m)
				wantPattern(t, c, x, whole[at:at+m]) // across a border too
				wantPattern(t, c, x, near(whole[at : at+max(m-1, 1)])[k])
			}
		}
		for _, p := range slices.Concat(spread(ends(c), 12), spread(borders(c), 6)) {
			wantPattern(t, c, x, p)
		}
		wantRefused(t, x, whole[:api.MaxPattern+1], api.ErrQuery)
	}
}

func TestAnswersAgree(t *testing.T) {
	for _, c := range someCollections() {
		x := made(t, c)
		for _, p := range slices.Concat(patterns(c, 5), ends(c), borders(c)) {
			agree(t, c, x, p)
		}
	}
	for _, c := range greatCollections()[:5] {
		x := made(t, c)
		for _, p := range slices.Concat(spread(ends(c), 6), [][]byte{{'a'}, []byte("ab"), {'q'}}) {
			agree(t, c, x, p)
		}
	}
}

// agree holds what an index answers about a right pattern against what else it answers.
func agree(t *testing.T, c collection, x *Index, p []byte) {
	t.Helper()
	a, b := x.Range(p)
	if from, to := x.Finder().Range(x.Text().Pattern(p)); from != a || to != b {
		t.Fatalf("%s: %q: Range %d, %d, of the finder %d, %d", c.name, few(p), a, b, from, to)
	}
	count, e := x.Count(p)
	list, f := x.List(p)
	top, g := x.Top(p, api.MaxDocs)
	places, h := x.Places(p)
	if e != api.OK || f != api.OK || g != api.OK || h != api.OK {
		t.Fatalf("%s: %q: %v, %v, %v, %v", c.name, few(p), e, f, g, h)
	}
	times, listed := 0, make([]int, 0, len(top))
	for _, y := range top {
		times += y.Count
		listed = append(listed, y.Symbol)
		if x.Matrix().Rank(y.Symbol, b)-x.Matrix().Rank(y.Symbol, a) != y.Count {
			t.Fatalf("%s: %q: Top has %v", c.name, few(p), y)
		}
	}
	slices.Sort(listed)
	if count != (api.Tally{Docs: len(list), Times: b - a}) || times != b-a || len(places) != b-a || !slices.Equal(list, listed) || !slices.Equal(list, listBy(places)) {
		t.Fatalf("%s: %q: from %d ahead of %d: %v, %v, %v, %d places", c.name, few(p), a, b, count, few(list), few(top), len(places))
	}
	if !slices.IsSortedFunc(places, func(y, z api.Place) int { return (y.Doc-z.Doc)*api.MaxInts + y.At - z.At }) {
		t.Fatalf("%s: %q: Places don't rise: %v", c.name, few(p), few(places))
	}
	starts := make([]int, 0, b-a)
	for i := a; i < b; i++ {
		k, _ := x.Finder().Place(i)
		starts = append(starts, k)
	}
	slices.Sort(starts)
	for i, y := range places {
		if starts[i] != x.Text().Start(y.Doc)+y.At {
			t.Fatalf("%s: %q: the range has a suffix at %d, Places %v", c.name, few(p), starts[i], y)
		}
	}
}

func TestRangeIsInTheOrderOfTheSuffixes(t *testing.T) {
	for _, c := range someCollections() {
		x := made(t, c)
		s := numbersOf(symbolsBy(c.docs))
		sa := orderBy(s)
		for _, p := range slices.Concat(patterns(c, 3), borders(c), [][]byte{{0}, {255}, {'a'}}) {
			row := x.Text().Pattern(p)
			has := func(k int) bool { return k+len(row) <= len(s) && slices.Equal(s[k:k+len(row)], row) }
			a := max(slices.IndexFunc(sa, has), 0)
			b := a
			for b < len(sa) && has(sa[b]) {
				b++
			}
			if from, to := x.Range(p); from != a || to != b {
				t.Fatalf("%s: Range(%q): %d, %d, not %d, %d", c.name, p, from, to, a, b)
			}
		}
	}
}

// Wrong inputs.

func TestWrongPatternsAreRefused(t *testing.T) {
	whole := again("ab", 2*api.MaxText)
	for _, c := range append(someCollections(), parted("one document", again("ab", api.MaxText), api.MaxText)) {
		x := made(t, c)
		for _, p := range [][]byte{nil, {}, make([]byte, 0, 5), whole[:0], whole[3:3], whole[:257], whole[:258], whole[1:512], whole[:513], whole[:api.MaxText], whole[:api.MaxText+1], whole[:api.MaxText+257], whole, make([]byte, 257), bytes.Repeat([]byte{255}, 300)} {
			wantRefused(t, x, p, api.ErrQuery)
		}
		for _, p := range [][]byte{{'a'}, whole[:256], {0}, {255}, {'q'}} {
			wantNoTop(t, x, p, api.ErrQuery)
		}
		wantPattern(t, c, x, whole[:256])
	}
}

func TestNilIndex(t *testing.T) {
	var x *Index
	if x.Text() != nil || x.Finder() != nil || x.Matrix() != nil {
		t.Errorf("%v, %v, %v", x.Text() != nil, x.Finder() != nil, x.Matrix() != nil)
	}
	// ErrNil stands ahead of ErrQuery: of wrong patterns and counts too.
	for _, p := range [][]byte{{'a'}, {0}, {255}, []byte("ab"), make([]byte, 256), nil, {}, make([]byte, 257), make([]byte, api.MaxText+1)} {
		wantRefused(t, x, p, api.ErrNil)
	}
}

// What is handed in and out.

func TestWhatIsHandedInIsLeftAsItIs(t *testing.T) {
	for _, c := range someCollections() {
		for _, fill := range []byte{0, 'a', 255} {
			docs := make([][]byte, len(c.docs), len(c.docs)+2)
			for d, b := range c.docs {
				docs[d] = withRoom(b, fill)
			}
			spare := []byte("spare")
			spoil(docs[len(docs):], spare)
			p := withRoom([]byte("ab"), fill)
			long := withRoom(again("ab", 257), fill)
			stays := func(call string) {
				t.Helper()
				for d, b := range docs[:cap(docs)] {
					if d >= len(c.docs) && &b[0] == &spare[0] && string(b) == "spare" {
						continue
					}
					if d >= len(c.docs) || !bytes.Equal(b, c.docs[d]) || !bytes.Equal(b[:cap(b)][len(b):], bytes.Repeat([]byte{fill}, 5)) {
						t.Fatalf("%s: %s changed document %d: %q", c.name, call, d, few(b[:cap(b)]))
					}
				}
				if !bytes.Equal(p[:cap(p)], joined([]byte("ab"), bytes.Repeat([]byte{fill}, 5))) || !bytes.Equal(long[:cap(long)], joined(again("ab", 257), bytes.Repeat([]byte{fill}, 5))) {
					t.Fatalf("%s: %s changed a pattern", c.name, call)
				}
			}
			x := made(t, collection{c.name, docs})
			stays("Build")
			for _, call := range []struct {
				name string
				f    func()
			}{
				{"Right", func() { Right(p) }}, {"Range", func() { x.Range(p) }}, {"Count", func() { x.Count(p) }}, {"List", func() { x.List(p) }}, {"Top", func() { x.Top(p, 2) }}, {"Places", func() { x.Places(p) }},
				{"Text", func() { x.Text() }}, {"Finder", func() { x.Finder() }}, {"Matrix", func() { x.Matrix() }}, {"a refused one", func() { wantRefused(t, x, long, api.ErrQuery) }}, {"Top of none", func() { x.Top(p, 0) }},
			} {
				call.f()
				stays(call.name)
			}
			for _, b := range docs {
				if Right(b) {
					wantPattern(t, c, x, b)
				}
			}
			checkSome(t, c, x)
			stays("a call")
		}
	}
	docs := slices.Repeat([][]byte{[]byte("ab")}, api.MaxDocs+1)
	refused(t, collection{"refused", docs})
	for d, b := range docs {
		if string(b) != "ab" {
			t.Errorf("document %d of too many: %q", d, b)
		}
	}
}

func TestTheIndexIsOfTheDocumentsAsTheyWere(t *testing.T) {
	for _, c := range someCollections() {
		docs := make([][]byte, len(c.docs))
		for d, b := range c.docs {
			docs[d] = withRoom(b, 'a')
		}
		x := made(t, collection{c.name, docs})
		sa := orderBy(numbersOf(symbolsBy(c.docs)))
		for _, fill := range []byte{'a', 'b', 0, 255} {
			for _, b := range docs {
				spoil(b, fill)
			}
			checkSome(t, c, x)
			wantParts(t, c, x, sa)
		}
		spoil(docs, []byte("ab"))
		checkSome(t, c, x)
		wantParts(t, c, x, sa)
	}
}

func TestPatternsMayBeChangedAfter(t *testing.T) {
	c := texts("the example", "banana", "ananas", "nab")
	x := made(t, c)
	p := []byte("an")
	for range 3 {
		copy(p, "an")
		list, _ := x.List(p)
		top, _ := x.Top(p, 2)
		places, _ := x.Places(p)
		copy(p, "na")
		wantPattern(t, c, x, p)
		copy(p, "zz")
		if !slices.Equal(list, []int{0, 1}) || !slices.Equal(top, []api.Pair{{Symbol: 0, Count: 2}, {Symbol: 1, Count: 2}}) || len(places) != 4 {
			t.Errorf("%v, %v, %v", list, top, places)
		}
		wantNowhere(t, c, x, p)
	}
}

func TestDocumentsAndPatternsOfOneMemory(t *testing.T) {
	whole := scatteredBytes(120, 2, 'a', 41)
	c := collection{"pieces", [][]byte{whole, whole[:60], whole[30:], whole[59:61], whole[:0], whole}}
	x := made(t, c)
	for i := range whole {
		for _, m := range []int{1, 2, 7, 60} {
			if i+m <= len(whole) {
				wantPattern(t, c, x, whole[i:i+m])
			}
		}
	}
	one := []byte("abab")
	c = collection{"one many times", slices.Repeat([][]byte{one}, 100)}
	x = made(t, c)
	wantPattern(t, c, x, one)
	wantPattern(t, c, x, one[1:3])
}

func TestAnswersAreNewMemory(t *testing.T) {
	for _, c := range someCollections() {
		x := made(t, c)
		for _, p := range slices.Concat(spread(ends(c), 12), [][]byte{{'a'}, {'q'}, []byte("ab")}) {
			list, _ := x.List(p)
			top, _ := x.Top(p, 3)
			places, _ := x.Places(p)
			for range 2 {
				l, _ := x.List(p)
				k, _ := x.Top(p, 3)
				q, _ := x.Places(p)
				spoil(l, -9)
				spoil(k, api.Pair{Symbol: -9, Count: -9})
				spoil(q, api.Place{Doc: -9, At: -9})
				_, _, _ = append(l, 1), append(k, api.Pair{}), append(q, api.Place{})
				wantPattern(t, c, x, p)
			}
			by := placesBy(c.docs, p)
			all := topBy(by)
			if !slices.Equal(list, listBy(by)) || !slices.Equal(top, all[:min(3, len(all))]) || !slices.Equal(places, by) {
				t.Fatalf("%s: %q: %v, %v, %v changed with other answers", c.name, p, list, top, places)
			}
		}
	}
}

func TestWhatTheIndexHandsOutMayBeChanged(t *testing.T) {
	other := made(t, texts("another one", "zzzz", "yyy"))
	for _, c := range someCollections() {
		x := made(t, c)
		sa := orderBy(numbersOf(symbolsBy(c.docs)))
		kept, matrix := x.Text(), x.Matrix()
		for range 2 {
			*x.Text() = *other.Text()
			*x.Matrix() = *other.Matrix()
			if f := x.Finder(); f != nil {
				*f = *other.Finder()
			}
			for d := range c.docs {
				spoil(x.Text().Bytes(d), 'z')
			}
			spoil(x.Text().Symbols(), 0)
			spoil(x.Matrix().Levels(), nil)
			for _, v := range x.Matrix().Levels() {
				*v = *other.Matrix().Levels()[0]
			}
			checkSome(t, c, x)
			wantParts(t, c, x, sa)
		}
		wantText(t, c, kept)
		wantMatrix(t, c, matrix, sa)
		*x.Text() = text.Text{}
		*x.Matrix() = wave.Matrix{}
		if f := x.Finder(); f != nil {
			*f = find.Finder{}
		}
		checkSome(t, c, x)
		wantParts(t, c, x, sa)
	}
	c := texts("another one", "zzzz", "yyy")
	check(t, c, other, 4)
}

// Objects beside one another.

func TestIndexesBesideOneAnother(t *testing.T) {
	all := someCollections()
	indexes := make([]*Index, len(all))
	for k, c := range all {
		indexes[k] = made(t, c)
	}
	for k, c := range slices.Backward(all) {
		refused(t, collection{"too many", make([][]byte, api.MaxDocs+1)})
		indexes[(k+1)%len(all)].List([]byte("a"))
		checkSome(t, c, indexes[k])
		wantParts(t, c, indexes[k], orderBy(numbersOf(symbolsBy(c.docs))))
	}
	c, d := texts("one", "aab", "b"), texts("its like, turned round", "b", "aab")
	x, y := made(t, c), made(t, d)
	for _, p := range words("ab", 4)[1:] {
		wantPattern(t, c, x, p)
		wantPattern(t, d, y, p)
	}
}

func TestAnswersDontHangOnThoseAhead(t *testing.T) {
	c := parted("scattered", scatteredBytes(600, 2, 'a', 51), 40)
	x, other := made(t, c), made(t, c)
	all := words("ab", 5)[1:]
	for k, p := range all {
		other.Top(all[len(all)-1-k], k)
		other.Places(all[(k*7)%len(all)])
		other.Count(nil)
		other.List(make([]byte, 257))
		wantPattern(t, c, other, p)
		wantPattern(t, c, x, p)
	}
	for _, p := range slices.Backward(all) {
		wantPattern(t, c, x, p)
		wantPattern(t, c, x, p)
		wantPattern(t, c, other, p)
	}
	sa := orderBy(numbersOf(symbolsBy(c.docs)))
	wantParts(t, c, x, sa)
	wantParts(t, c, other, sa)
}

// The chapter's examples.

func TestExamples(t *testing.T) {
	x, e := Build([]byte("banana"), []byte("ananas"), []byte("nab"))
	if e != api.OK {
		t.Fatal(e)
	}
	if c, e := x.Count([]byte("an")); e != api.OK || c != (api.Tally{Docs: 2, Times: 4}) {
		t.Errorf("Count: %v, %v", c, e)
	}
	if l, e := x.Top([]byte("a"), 2); e != api.OK || !slices.Equal(l, []api.Pair{{Symbol: 0, Count: 3}, {Symbol: 1, Count: 3}}) {
		t.Errorf("Top: %v, %v", l, e)
	}
	if l, e := x.Top([]byte("a"), 3); e != api.OK || len(l) != 3 || l[2] != (api.Pair{Symbol: 2, Count: 1}) {
		t.Errorf("Top: %v, %v", l, e)
	}
	if l, e := x.Places([]byte("na")); e != api.OK || !slices.Equal(l, []api.Place{{Doc: 0, At: 2}, {Doc: 0, At: 4}, {Doc: 1, At: 1}, {Doc: 1, At: 3}, {Doc: 2, At: 0}}) {
		t.Errorf("Places: %v, %v", l, e)
	}
}
