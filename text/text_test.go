package text

import (
	"bytes"
	"math"
	"slices"
	"strconv"
	"testing"

	"colophon/api"
)

// extremes are numbers of no document and places of no symbol.
var extremes = []int{
	-1, -2, -3, -255, -256, -257, -65536, -65792, math.MinInt32, math.MinInt, math.MinInt + 1,
	66000, 131072, 1 << 24, math.MaxInt32, 1 << 32, 1<<32 + 1, 1<<32 + 256, math.MaxInt - 1, math.MaxInt,
}

// sample is documents, by a name.
type sample struct {
	name string
	docs [][]byte
}

// sayings answers documents of these texts.
func sayings(texts ...string) [][]byte {
	docs := [][]byte{}
	for _, s := range texts {
		docs = append(docs, []byte(s))
	}
	return docs
}

// scattered answers n bytes that look like no rule.
func scattered(n int, seed uint32) []byte {
	l := make([]byte, n)
	x := seed
	for i := range l {
		x = x*1664525 + 1013904223
		l[i] = byte(x >> 24)
	}
	return l
}

// every answers each byte once.
func every() []byte {
	l := make([]byte, 256)
	for i := range l {
		l[i] = byte(i)
	}
	return l
}

// many answers documents of these sizes.
func many(sizes ...int) [][]byte {
	docs := [][]byte{}
	for d, size := range sizes {
		docs = append(docs, scattered(size, uint32(d)))
	}
	return docs
}

// even answers count documents, each of so many bytes.
func even(count, size int) [][]byte {
	return many(slices.Repeat([]int{size}, count)...)
}

// spread answers count documents, all empty but those of these numbers.
func spread(count int, docs map[int][]byte) [][]byte {
	l := make([][]byte, count)
	for d := range l {
		l[d] = docs[d]
		if l[d] == nil && d%2 == 1 {
			l[d] = []byte{}
		}
	}
	return l
}

// small answers collections of few bytes, of all kinds that the chapter tells apart.
func small() []sample {
	return []sample{
		{"no documents", nil}, {"an empty list of documents", [][]byte{}}, {"an empty list with room", make([][]byte, 0, 9)},
		{"nil", [][]byte{nil}}, {"empty", [][]byte{{}}}, {"empty with room", [][]byte{make([]byte, 0, 9)}},
		{"all nil", [][]byte{nil, nil, nil}}, {"all empty", [][]byte{{}, {}, {}, {}}}, {"all nil or empty", [][]byte{nil, {}, nil, {}, {}}},
		{"nil first", [][]byte{nil, []byte("ab"), []byte("b")}}, {"empty first", [][]byte{{}, []byte("ab"), []byte("b")}}, {"two empty first", [][]byte{{}, nil, []byte("b")}},
		{"nil in the middle", [][]byte{[]byte("ab"), nil, []byte("b")}}, {"empty in the middle", [][]byte{[]byte("ab"), {}, []byte("b")}}, {"three empty in the middle", [][]byte{[]byte("ab"), {}, nil, {}, []byte("b")}},
		{"nil last", [][]byte{[]byte("ab"), []byte("b"), nil}}, {"empty last", [][]byte{[]byte("ab"), []byte("b"), {}}}, {"two empty last", [][]byte{[]byte("b"), nil, {}}},
		{"empty everywhere", [][]byte{{}, []byte("ab"), nil, []byte("b"), {}}},
		{"one byte", sayings("a")}, {"one document", sayings("banana")}, {"three documents", sayings("banana", "ananas", "nab")},
		{"alike", sayings("ab", "ab")}, {"alike and not", sayings("ab", "b", "ab", "", "b", "ab")}, {"alike of one byte", sayings("a", "a", "a", "a")},
		{"beginnings of one another", sayings("abc", "ab", "a", "", "a", "ab", "abc")},
		{"byte 0", [][]byte{{0}}}, {"byte 255", [][]byte{{255}}}, {"bytes 0 and 255", [][]byte{{0, 255}, {255, 0}, {255, 255, 0, 0}}},
		{"bytes 0", [][]byte{{0}, {0, 0}, {}, {0, 0, 0}}}, {"bytes like ends", [][]byte{{0, 1, 2}, {2, 1, 0}, {1}}}, {"bytes 127 and 128", [][]byte{{127, 128}, {128, 127}}},
		{"each byte", [][]byte{every()}}, {"each byte twice", [][]byte{every(), {}, every()}},
		{"letters of several bytes", sayings("äöü", "日本", "\xff\xfe")},
		{"rising sizes", many(0, 1, 2, 3, 4, 5, 6, 7, 8, 9)}, {"falling sizes", many(300, 200, 100, 50, 20, 7, 3, 1, 0)},
		{"255 documents", even(255, 3)}, {"256 documents", even(256, 3)}, {"255 empty documents", spread(255, nil)}, {"256 empty documents", spread(256, nil)},
		{"256 documents, the first alone not empty", spread(256, map[int][]byte{0: []byte("first")})},
		{"256 documents, the last alone not empty", spread(256, map[int][]byte{255: []byte("last")})},
		{"256 documents, few not empty", spread(256, map[int][]byte{1: []byte("b"), 127: []byte("ab"), 128: []byte("a"), 254: []byte("c")})},
		{"256 documents alike", slices.Repeat([][]byte{[]byte("ab")}, 256)}, {"256 documents of a byte each", even(256, 1)},
	}
}

// great answers collections of about as many bytes as there may be.
func great() []sample {
	return []sample{
		{"65535 bytes", many(65535)}, {"65536 bytes", many(65536)}, {"65536 bytes 0", [][]byte{make([]byte, 65536)}}, {"65536 bytes 255", [][]byte{bytes.Repeat([]byte{255}, 65536)}},
		{"65535 bytes in two", many(32768, 32767)}, {"65536 bytes in two", many(32768, 32768)}, {"65535 and 1", many(65535, 1)}, {"1 and 65535", many(1, 65535)},
		{"65536 bytes in three", many(20000, 1, 45535)}, {"65536 and empty ones", many(0, 65536, 0)}, {"empty ones and 65536", many(0, 0, 0, 65536)}, {"65536 ahead of empty ones", many(65536, 0, 0)},
		{"65535 and empty ones", many(0, 65535, 0, 0)}, {"65536 bytes among empty ones", many(0, 32768, 0, 0, 32767, 0, 1, 0)},
		{"65535 bytes in 255", even(255, 257)}, {"65536 bytes in 256", even(256, 256)}, {"65535 bytes in 256", append(even(255, 256), scattered(255, 9))},
		{"65536 bytes in the last of 256", spread(256, map[int][]byte{255: scattered(65536, 1)})}, {"65536 bytes in the first of 256", spread(256, map[int][]byte{0: scattered(65536, 2)})},
	}
}

// tooMany answers documents that are refused.
func tooMany() []sample {
	return []sample{
		{"257 documents", even(257, 1)}, {"257 nil documents", make([][]byte, 257)}, {"257 empty documents", spread(257, nil)}, {"258 documents", even(258, 2)},
		{"512 documents", even(512, 0)}, {"65536 documents", even(65536, 0)}, {"65537 documents", even(65537, 0)}, {"257 documents, the last alone not empty", spread(257, map[int][]byte{256: []byte("a")})},
		{"65537 bytes", many(65537)}, {"65538 bytes", many(65538)}, {"131072 bytes", many(131072)}, {"1 << 24 bytes", [][]byte{make([]byte, 1<<24)}},
		{"65536 and 1", many(65536, 1)}, {"1 and 65536", many(1, 65536)}, {"65537 bytes in two", many(32768, 32769)}, {"65537 bytes in three", many(30000, 30000, 5537)}, {"65536 twice", many(65536, 65536)},
		{"65537 and empty ones", many(0, 65537, 0)}, {"65536, empty ones and 1", many(65536, 0, 0, 1)}, {"empty ones, 1 and 65536", many(0, 0, 1, 0, 65536, 0)},
		{"65537 bytes in 256", append(even(255, 256), scattered(257, 3))}, {"65537 bytes in 256, the first one greater", append(many(257), even(255, 256)...)}, {"257 in each of 256", even(256, 257)},
		{"65536 bytes in 257", append(even(256, 256), nil)}, {"65536 bytes in the first of 257", append(many(65536), even(256, 0)...)},
		{"both too many", even(257, 256)}, {"both far too many", even(1000, 100)}, {"65537 bytes in the first of 257", append(many(65537), even(256, 0)...)}, {"65537 bytes in the last of 257", append(even(256, 0), scattered(65537, 4))},
	}
}

func made(t *testing.T, s sample) *Text {
	t.Helper()
	x, e := New(s.docs...)
	if e != api.OK || x == nil {
		t.Fatalf("%s: New: %v, %v", s.name, x, e)
	}
	return x
}

// placed is a symbol, and where it stands.
type placed struct{ symbol, doc, at int }

// symbolsOf answers the symbols as the chapter has them: each byte D higher, and the number behind.
func symbolsOf(docs [][]byte) []placed {
	all := []placed{}
	for d, b := range docs {
		for at := range len(b) {
			all = append(all, placed{len(docs) + int(b[at]), d, at})
		}
		all = append(all, placed{d, d, len(b)})
	}
	return all
}

// symbolsIn answers the symbols alone.
func symbolsIn(all []placed) []int {
	l := []int{}
	for _, p := range all {
		l = append(l, p.symbol)
	}
	return l
}

// startsOf answers where each document's symbols begin, and behind the last one where all end.
func startsOf(docs [][]byte) []int {
	starts := []int{0}
	sum := 0
	for _, b := range docs {
		sum += len(b) + 1
		starts = append(starts, sum)
	}
	return starts
}

// check holds all that a collection answers against its documents.
func check(t *testing.T, name string, x *Text, docs [][]byte) {
	t.Helper()
	all := symbolsOf(docs)
	if x.Docs() != len(docs) || x.Len() != len(all) || x.Alphabet() != len(docs)+256 {
		t.Fatalf("%s: Docs %d, Len %d, Alphabet %d, not %d, %d, %d", name, x.Docs(), x.Len(), x.Alphabet(), len(docs), len(all), len(docs)+256)
	}
	if got := x.Symbols(); !slices.Equal(got, symbolsIn(all)) {
		t.Fatalf("%s: Symbols are others: %d of them, not %d", name, len(got), len(all))
	}
	checkDoc(t, name, x, all)
	checkStart(t, name, x, startsOf(docs))
	checkBytes(t, name, x, docs)
	checkPattern(t, name, x, len(docs), every())
	checkPattern(t, name, x, len(docs), nil)
}

// checkDoc asks for each place, and for those that there aren't.
func checkDoc(t *testing.T, name string, x *Text, all []placed) {
	t.Helper()
	for p, want := range all {
		if d, at := x.Doc(p); d != want.doc || at != want.at {
			t.Fatalf("%s: Doc(%d): %d, %d, not %d, %d", name, p, d, at, want.doc, want.at)
		}
	}
	n := len(all)
	for _, p := range append([]int{n, n + 1, n + 2, n + 255, n + 256, 2*n + 1}, extremes...) {
		if d, at := x.Doc(p); d != -1 || at != -1 {
			t.Fatalf("%s: Doc(%d) of %d: %d, %d, not -1, -1", name, p, n, d, at)
		}
	}
}

// checkStart asks for each document, for the one behind the last, and for others.
func checkStart(t *testing.T, name string, x *Text, starts []int) {
	t.Helper()
	for d, want := range starts {
		if got := x.Start(d); got != want {
			t.Fatalf("%s: Start(%d): %d, not %d", name, d, got, want)
		}
	}
	n := len(starts)
	for _, d := range append([]int{n, n + 1, n + 2, n + 255, n + 256, n + 65536}, extremes...) {
		if got := x.Start(d); got != -1 {
			t.Fatalf("%s: Start(%d) of %d: %d, not -1", name, d, n-1, got)
		}
	}
}

// checkBytes asks for each document, and for those that there aren't.
func checkBytes(t *testing.T, name string, x *Text, docs [][]byte) {
	t.Helper()
	for d, want := range docs {
		if got := x.Bytes(d); !bytes.Equal(got, want) {
			t.Fatalf("%s: Bytes(%d): %d others, not %d", name, d, len(got), len(want))
		}
	}
	n := len(docs)
	for _, d := range append([]int{n, n + 1, n + 2, n + 255, n + 256, n + 65536}, extremes...) {
		if got := x.Bytes(d); len(got) != 0 {
			t.Fatalf("%s: Bytes(%d) of %d: %x", name, d, n, got)
		}
	}
}

// checkPattern asks a collection of so many documents for a pattern.
func checkPattern(t *testing.T, name string, x *Text, docs int, p []byte) {
	t.Helper()
	want := []int{}
	for _, b := range p {
		want = append(want, docs+int(b))
	}
	if got := x.Pattern(p); !slices.Equal(got, want) {
		t.Fatalf("%s: Pattern(%x): %v, not %v", name, p, got, want)
	}
}

// overwrite turns all bits of bytes, those of their spare room too.
func overwrite(b []byte) {
	b = b[:cap(b)]
	for i := range b {
		b[i] ^= 255
	}
}

// overturn does so with numbers.
func overturn(l []int) {
	l = l[:cap(l)]
	for i := range l {
		l[i] = ^l[i]
	}
}

// copied answers documents of their own that are alike.
func copied(docs [][]byte) [][]byte {
	l := slices.Clone(docs)
	for d := range l {
		l[d] = bytes.Clone(l[d])
	}
	return l
}

// roomy answers documents that are alike, in a list with spare room, each with spare room of its own.
func roomy(docs [][]byte) [][]byte {
	l := make([][]byte, 0, len(docs)+3)
	for _, b := range docs {
		room := append(bytes.Clone(b), "spare room"...)
		l = append(l, room[:len(b)])
	}
	copy(l[:cap(l)][len(l):], sayings("x", "y", "z"))
	return l
}

// whole answers all that stands in these lists, their spare room too.
func whole(docs [][]byte) [][]byte {
	l := [][]byte{}
	for _, b := range docs[:cap(docs)] {
		l = append(l, bytes.Clone(b[:cap(b)]))
	}
	return l
}

func alike(a, b [][]byte) bool {
	return slices.EqualFunc(a, b, bytes.Equal)
}

// P8.1

func TestNew(t *testing.T) {
	for _, s := range small() {
		check(t, s.name, made(t, s), s.docs)
	}
}

func TestNewOfManyBytes(t *testing.T) {
	for _, s := range great() {
		check(t, s.name, made(t, s), s.docs)
	}
}

func TestNewOfTooMany(t *testing.T) {
	for _, s := range tooMany() {
		if x, e := New(s.docs...); e != api.ErrMany || x != nil {
			t.Errorf("%s: %v, %v", s.name, x != nil, e)
		}
	}
}

func TestNewOfEachCount(t *testing.T) {
	for count := range 300 {
		for size := range 2 {
			x, e := New(even(count, size)...)
			if count > 256 {
				if e != api.ErrMany || x != nil {
					t.Errorf("%d documents: %v, %v", count, x != nil, e)
				}
			} else if e != api.OK || x.Docs() != count || x.Len() != count*(size+1) || x.Alphabet() != count+256 {
				t.Errorf("%d documents: %d, %d, %d, %v", count, x.Docs(), x.Len(), x.Alphabet(), e)
			}
		}
	}
}

func TestNewAboutTheBoundOfBytes(t *testing.T) {
	for first := range 40 {
		for _, sum := range []int{65530, 65534, 65535, 65536, 65537, 65538, 65600} {
			want := api.OK
			if sum > 65536 {
				want = api.ErrMany
			}
			for _, docs := range [][][]byte{many(first, sum-first), many(sum-first, first), many(first, 0, sum-2*first, first)} {
				if x, e := New(docs...); e != want || (x == nil) != (want != api.OK) {
					t.Errorf("%d bytes, %d first: %v, %v, not %v", sum, len(docs[0]), x != nil, e, want)
				}
			}
		}
	}
}

func TestNewOfNothing(t *testing.T) {
	var none [][]byte
	for i, call := range []func() (*Text, api.Errno){
		func() (*Text, api.Errno) { return New() },
		func() (*Text, api.Errno) { return New(none...) },
		func() (*Text, api.Errno) { return New([][]byte{}...) },
		func() (*Text, api.Errno) { return New(sayings("a", "b")[:0]...) },
	} {
		x, e := call()
		if e != api.OK || x == nil {
			t.Fatalf("call %d: %v, %v", i, x, e)
		}
		check(t, "call "+strconv.Itoa(i), x, nil)
	}
}

func TestNewOfDocumentsOneByOne(t *testing.T) {
	x, e := New([]byte("ab"), nil, []byte{}, []byte("b"))
	if e != api.OK {
		t.Fatal(e)
	}
	check(t, "four", x, sayings("ab", "", "", "b"))
	x, e = New(nil)
	if e != api.OK {
		t.Fatal(e)
	}
	check(t, "a nil document", x, sayings(""))
}

func TestNewOfOneDocumentManyTimes(t *testing.T) {
	// All are the same memory.
	b := scattered(256, 5)
	docs := slices.Repeat([][]byte{b}, 256)
	x := made(t, sample{"one 256 times", docs})
	want := copied(docs)
	overwrite(b)
	check(t, "one 256 times", x, want)
}

func TestNewOfPartsOfOneAnother(t *testing.T) {
	b := []byte("banana")
	x := made(t, sample{"parts", [][]byte{b, b[1:], b[:3], b[2:4], b[6:], b}})
	overwrite(b)
	check(t, "parts", x, sayings("banana", "anana", "ban", "na", "", "banana"))
}

func TestNewChangesNothing(t *testing.T) {
	for _, s := range slices.Concat(small(), tooMany()) {
		docs := roomy(s.docs)
		was := whole(docs)
		x, _ := New(docs...)
		if !alike(whole(docs), was) {
			t.Fatalf("%s: New changed what was handed in", s.name)
		}
		askAll(x)
		if !alike(whole(docs), was) {
			t.Fatalf("%s: a call changed what was handed in", s.name)
		}
	}
}

// askAll makes each call, and changes what it answers.
func askAll(x *Text) {
	x.Docs()
	x.Len()
	x.Alphabet()
	overturn(x.Symbols())
	for i := -2; i < 1000; i++ {
		x.Doc(i)
		x.Start(i)
		overwrite(x.Bytes(i))
	}
	overturn(x.Pattern(every()))
}

func TestDocumentsChangedAfterNew(t *testing.T) {
	for _, s := range small() {
		docs := roomy(s.docs)
		x := made(t, sample{s.name, docs})
		for d, b := range docs[:cap(docs)] {
			overwrite(b)
			if d%3 == 0 {
				docs[:cap(docs)][d] = []byte("another")
			} else if d%3 == 1 {
				docs[:cap(docs)][d] = nil
			}
		}
		check(t, s.name, x, s.docs)
	}
}

func TestCollectionsBesideOneAnother(t *testing.T) {
	docs := sayings("banana", "", "nab")
	first := made(t, sample{"first", docs})
	docs[0][0], docs[2] = 'c', []byte("b")
	second := made(t, sample{"second", docs})
	if x, e := New(make([][]byte, 257)...); x != nil || e != api.ErrMany {
		t.Errorf("257: %v, %v", x, e)
	}
	third := made(t, sample{"third", nil})
	askAll(first)
	askAll(second)
	check(t, "third", third, nil)
	check(t, "second", second, sayings("canana", "", "b"))
	check(t, "first", first, sayings("banana", "", "nab"))
}

// P8.2

// told is all that a collection answers, as the chapter says it, written out.
var told = []struct {
	name    string
	docs    []string
	symbols []int
	starts  []int
}{
	{"none", nil, []int{}, []int{0}},
	{"one empty", []string{""}, []int{0}, []int{0, 1}},
	{"two empty", []string{"", ""}, []int{0, 1}, []int{0, 1, 2}},
	{"one", []string{"ab"}, []int{98, 99, 0}, []int{0, 3}},
	{"two", []string{"ab", "b"}, []int{99, 100, 0, 100, 1}, []int{0, 3, 5}},
	{"the chapter's", []string{"ab", "", "b"}, []int{100, 101, 0, 1, 101, 2}, []int{0, 3, 4, 6}},
	{"empty first", []string{"", "ab"}, []int{0, 99, 100, 1}, []int{0, 1, 4}},
	{"empty last", []string{"ab", ""}, []int{99, 100, 0, 1}, []int{0, 3, 4}},
	{"alike", []string{"a", "a"}, []int{99, 0, 99, 1}, []int{0, 2, 4}},
	{"0 and 255", []string{"\x00", "\xff", "\xff\x00"}, []int{3, 0, 258, 1, 258, 3, 2}, []int{0, 2, 4, 7}},
	{"banana", []string{"banana", "ananas", "nab"}, []int{101, 100, 113, 100, 113, 100, 0, 100, 113, 100, 113, 100, 118, 1, 113, 100, 101, 2}, []int{0, 7, 14, 18}},
}

func TestToldSymbols(t *testing.T) {
	for _, w := range told {
		x := made(t, sample{w.name, sayings(w.docs...)})
		if got := x.Symbols(); !slices.Equal(got, w.symbols) {
			t.Errorf("%s: %v, not %v", w.name, got, w.symbols)
		}
		if x.Len() != len(w.symbols) || x.Docs() != len(w.docs) || x.Alphabet() != len(w.docs)+256 {
			t.Errorf("%s: Len %d, Docs %d, Alphabet %d", w.name, x.Len(), x.Docs(), x.Alphabet())
		}
	}
}

func TestToldStarts(t *testing.T) {
	for _, w := range told {
		x := made(t, sample{w.name, sayings(w.docs...)})
		for d, want := range w.starts {
			if got := x.Start(d); got != want {
				t.Errorf("%s: Start(%d): %d, not %d", w.name, d, got, want)
			}
		}
		// The last one of these is D, and Len stands there.
		d := len(w.docs)
		if x.Start(d) != x.Len() || x.Start(d+1) != -1 || x.Start(-1) != -1 {
			t.Errorf("%s: %d, %d, %d", w.name, x.Start(d), x.Start(d+1), x.Start(-1))
		}
	}
}

func TestToldDocs(t *testing.T) {
	x := made(t, sample{"five", sayings("", "ab", "", "", "c")})
	for p, want := range [][2]int{{0, 0}, {1, 0}, {1, 1}, {1, 2}, {2, 0}, {3, 0}, {4, 0}, {4, 1}} {
		if d, at := x.Doc(p); d != want[0] || at != want[1] {
			t.Errorf("Doc(%d): %d, %d, not %v", p, d, at, want)
		}
	}
	for _, p := range []int{-1, 8, 9} {
		if d, at := x.Doc(p); d != -1 || at != -1 {
			t.Errorf("Doc(%d): %d, %d", p, d, at)
		}
	}
}

func TestLastSymbols(t *testing.T) {
	for _, s := range slices.Concat(small(), great()) {
		x := made(t, s)
		symbols := x.Symbols()
		for d, b := range s.docs {
			end := x.Start(d+1) - 1
			if symbols[end] != d {
				t.Fatalf("%s: document %d ends with %d", s.name, d, symbols[end])
			}
			if got, at := x.Doc(end); got != d || at != len(b) {
				t.Fatalf("%s: Doc(%d): %d, %d, not %d, %d", s.name, end, got, at, d, len(b))
			}
		}
	}
}

// TestSymbolsAreOfTheAlphabet tells too of ends that aren't below the symbols of all bytes.
func TestSymbolsAreOfTheAlphabet(t *testing.T) {
	for _, s := range slices.Concat(small(), great()) {
		x := made(t, s)
		ends := 0
		for p, symbol := range x.Symbols() {
			if symbol < 0 || symbol >= x.Alphabet() {
				t.Fatalf("%s: %d at %d of the alphabet %d", s.name, symbol, p, x.Alphabet())
			}
			if symbol < x.Docs() {
				ends++
			}
		}
		if ends != x.Docs() {
			t.Fatalf("%s: %d ends of %d documents", s.name, ends, x.Docs())
		}
	}
}

// TestCallsTogether holds what one call says against what others say of it.
func TestCallsTogether(t *testing.T) {
	for _, s := range slices.Concat(small(), great()) {
		x := made(t, s)
		symbols := x.Symbols()
		for d := range x.Docs() {
			row := append(x.Pattern(x.Bytes(d)), d)
			if from := x.Start(d); !slices.Equal(symbols[from:x.Start(d+1)], row) {
				t.Fatalf("%s: document %d isn't what stands from %d on", s.name, d, from)
			}
		}
		for p := range x.Len() {
			if d, at := x.Doc(p); x.Start(d)+at != p {
				t.Fatalf("%s: Doc(%d): %d, %d, and Start %d", s.name, p, d, at, x.Start(d))
			}
		}
	}
}

func TestPattern(t *testing.T) {
	for _, s := range small() {
		x := made(t, s)
		for b := range 256 {
			checkPattern(t, s.name, x, len(s.docs), []byte{byte(b)})
		}
		for _, p := range []string{"", "ab", "ba", "no document has this", "\x00", "\xff", "\x00\xff\x00", "aaaa", "\x00\x01\x02"} {
			checkPattern(t, s.name, x, len(s.docs), []byte(p))
		}
		// No bound of a pattern is this layer's.
		for _, size := range []int{255, 256, 257, 65536, 65537, 200000} {
			checkPattern(t, s.name, x, len(s.docs), scattered(size, uint32(size)))
		}
	}
}

func TestPatternOfNothing(t *testing.T) {
	for _, s := range small() {
		x := made(t, s)
		for _, p := range [][]byte{nil, {}, make([]byte, 0, 9), every()[:0], every()[256:]} {
			if got := x.Pattern(p); len(got) != 0 {
				t.Errorf("%s: %v", s.name, got)
			}
		}
	}
}

func TestPatternLeavesItsBytes(t *testing.T) {
	for _, s := range small() {
		x := made(t, s)
		room := scattered(300, 6)
		was := bytes.Clone(room)
		got := x.Pattern(room[:100])
		want := slices.Clone(got)
		overturn(got)
		got = x.Pattern(room[:100])
		if !bytes.Equal(room, was) || !slices.Equal(got, want) {
			t.Fatalf("%s: a pattern's bytes changed", s.name)
		}
		overwrite(room)
		if !slices.Equal(got, want) {
			t.Fatalf("%s: an answer changed with the pattern", s.name)
		}
		check(t, s.name, x, s.docs)
	}
}

func TestAnswersChangedAfter(t *testing.T) {
	for _, s := range small() {
		x := made(t, s)
		for range 3 {
			overturn(x.Symbols())
			overturn(x.Pattern(every()))
			overturn(x.Pattern(nil))
			for d := range x.Docs() {
				b := x.Bytes(d)
				overwrite(b)
				// Growing an answer within its room would reach what follows, if the room were not its own.
				_ = append(b, "more"...)
			}
			_ = append(x.Symbols(), 1, 2, 3)
			check(t, s.name, x, s.docs)
		}
	}
}

func TestAnswersShareNothing(t *testing.T) {
	x := made(t, sample{"four", sayings("banana", "", "nab", "banana")})
	numbers := [][]int{x.Symbols(), x.Symbols(), x.Pattern([]byte("ab")), x.Pattern([]byte("ab")), x.Pattern([]byte("banana"))}
	for i, l := range numbers {
		was := slices.Clone(l)
		for j, other := range numbers {
			if i != j {
				overturn(other)
			}
		}
		if !slices.Equal(l, was) {
			t.Errorf("list of numbers %d changed with others", i)
		}
	}
	docs := [][]byte{x.Bytes(0), x.Bytes(1), x.Bytes(2), x.Bytes(3), x.Bytes(0), x.Bytes(2)}
	for i, l := range docs {
		was := bytes.Clone(l)
		for j, other := range docs {
			if i != j {
				overwrite(other)
			}
		}
		if !bytes.Equal(l, was) {
			t.Errorf("bytes %d changed with others", i)
		}
	}
	check(t, "four", x, sayings("banana", "", "nab", "banana"))
}

func TestNilText(t *testing.T) {
	var x *Text
	for range 2 {
		if x.Docs() != 0 || x.Len() != 0 || x.Alphabet() != 0 || len(x.Symbols()) != 0 {
			t.Errorf("%d, %d, %d, %v", x.Docs(), x.Len(), x.Alphabet(), x.Symbols())
		}
		for _, i := range append([]int{0, 1, 2, 255, 256, 257, 65535, 65536, 65537}, extremes...) {
			if d, at := x.Doc(i); d != -1 || at != -1 {
				t.Errorf("Doc(%d): %d, %d", i, d, at)
			}
			if x.Start(i) != -1 || len(x.Bytes(i)) != 0 {
				t.Errorf("Start(%d): %d, Bytes: %x", i, x.Start(i), x.Bytes(i))
			}
		}
		for _, p := range [][]byte{nil, {}, {0}, []byte("ab"), every()} {
			if got := x.Pattern(p); len(got) != 0 {
				t.Errorf("Pattern(%x): %v", p, got)
			}
		}
	}
}

// The chapter's example.

func TestExample(t *testing.T) {
	x, e := New([]byte("ab"), []byte(""), []byte("b"))
	if e != api.OK || !slices.Equal(x.Symbols(), []int{100, 101, 0, 1, 101, 2}) {
		t.Fatalf("%v, %v", x.Symbols(), e)
	}
	if x.Docs() != 3 || x.Len() != 6 || x.Alphabet() != 259 {
		t.Errorf("%d, %d, %d", x.Docs(), x.Len(), x.Alphabet())
	}
}
