package image

import (
	"bytes"
	"hash/crc32"
	"math"
	"math/bits"
	"slices"
	"strings"
	"testing"

	"colophon/api"
)

// sample answers n bytes that look like no rule, none of them a nought.
func sample(n int, seed uint32) []byte {
	l := make([]byte, n)
	x := seed
	for i := range l {
		x = x*1664525 + 1013904223
		l[i] = byte(x>>24) | 1
	}
	return l
}

// samples answers a section of each size.
func samples(sizes ...int) [][]byte {
	l := make([][]byte, len(sizes))
	for i, size := range sizes {
		l[i] = sample(size, uint32(i+1))
	}
	return l
}

// repeated answers so many sizes, all of them alike.
func repeated(n, size int) []int {
	return slices.Repeat([]int{size}, n)
}

// lowest answers a number in so many bytes, the lowest one first.
func lowest(size int, n uint64) []byte {
	l := make([]byte, size)
	for i := range l {
		l[i] = byte(n)
		n >>= 8
	}
	return l
}

// leaf answers a page as chapter 5's form has it, of 256 bytes.
func leaf(n int, b []byte) []byte {
	p := append(bytes.Clone(b), lowest(4, uint64(n))...)
	return append(p, lowest(4, uint64(crc32.ChecksumIEEE(p)))...)
}

// filled answers b with noughts behind it, until whole pages are full.
func filled(b []byte) []byte {
	l := bytes.Clone(b)
	for len(l)%256 != 0 {
		l = append(l, 0)
	}
	return l
}

// headed answers the head that names so many sections and these lengths.
func headed(count uint64, lengths ...uint64) []byte {
	h := append([]byte("colo"), lowest(2, count)...)
	for _, n := range lengths {
		h = append(h, lowest(4, n)...)
	}
	return filled(h)
}

// paged answers the pages, numbered from 0 on, that have these bytes.
func paged(body []byte) []byte {
	var b []byte
	for n := 0; n*256 < len(body); n++ {
		b = append(b, leaf(n, body[n*256:n*256+256])...)
	}
	return b
}

// bodyOf answers the bytes of all pages, one behind the other, as the chapter's form has them.
func bodyOf(sections [][]byte) []byte {
	var lengths []uint64
	for _, s := range sections {
		lengths = append(lengths, uint64(len(s)))
	}
	body := headed(uint64(len(sections)), lengths...)
	for _, s := range sections {
		body = append(body, filled(s)...)
	}
	return body
}

// formed answers an image as the chapter's form has it.
func formed(sections [][]byte) []byte {
	return paged(bodyOf(sections))
}

// mended answers these pages with all sums put right.
func mended(b []byte) []byte {
	var l []byte
	for p := range slices.Chunk(b, 264) {
		if len(p) < 264 {
			return append(l, p...)
		}
		sum := uint64(crc32.ChecksumIEEE(p[:260]))
		l = append(append(l, p[:260]...), lowest(4, sum)...)
	}
	return l
}

// numbered answers these pages with all numbers, from 0 on, and all sums put right.
func numbered(b []byte) []byte {
	l := bytes.Clone(b)
	for n := range len(l) / 264 {
		copy(l[n*264+256:], lowest(4, uint64(n)))
	}
	return mended(l)
}

// laidAs answers the sections that stand in these bytes by the head's words, and whether an image of them is just these.
func laidAs(b []byte) ([][]byte, bool) {
	if len(b) == 0 || len(b)%264 != 0 {
		return nil, false
	}
	var body []byte
	for p := range slices.Chunk(b, 264) {
		body = append(body, p[:256]...)
	}
	count := int(body[4]) | int(body[5])<<8
	if count > 60 {
		return nil, false
	}
	var sections [][]byte
	at := 256
	for s := range count {
		l := body[6+4*s:]
		size := int(l[0]) | int(l[1])<<8 | int(l[2])<<16 | int(l[3])<<24
		if at+size > len(body) {
			return nil, false
		}
		sections = append(sections, body[at:at+size])
		at += len(filled(body[at : at+size]))
	}
	return sections, bytes.Equal(formed(sections), b)
}

// lists are of sections' sizes: none, one, many, empty ones ahead, between others and at the end.
func lists() [][]int {
	l := [][]int{
		{}, {0, 0}, {0, 0, 0, 0}, {1, 1}, {2, 0, 300}, {3, 0, 600, 1}, {0, 1}, {1, 0}, {0, 256, 0}, {256, 0, 0, 256}, {257, 0, 255, 0, 1},
		{256, 256}, {255, 257}, {257, 255}, {512, 1, 511}, {0, 0, 513, 0, 0}, {1000, 2000, 3000}, {65536}, {65537}, {0, 65535, 0},
		repeated(59, 1), repeated(60, 0), repeated(60, 1), repeated(60, 256), repeated(60, 257), append(repeated(59, 0), 9),
		append([]int{257}, repeated(59, 0)...), append(repeated(30, 2), repeated(30, 0)...),
	}
	for _, size := range []int{0, 1, 2, 100, 255, 256, 257, 511, 512, 513} {
		l = append(l, []int{size})
	}
	return l
}

// extremes are numbers of no section and of no page.
var extremes = []int{-1, -2, -256, 61, 4096, 4097, 1 << 20, math.MaxInt32, math.MinInt32, math.MaxInt, math.MaxInt/256 + 1, math.MaxInt/256 + 2, math.MinInt, math.MinInt + 1}

func built(t *testing.T, sections ...[]byte) []byte {
	t.Helper()
	b, e := Build(sections...)
	if e != api.OK || len(b) == 0 {
		t.Fatalf("Build of %d: %d bytes, %v", len(sections), len(b), e)
	}
	return b
}

func opened(t *testing.T, b []byte) *Image {
	t.Helper()
	m, e := Open(b)
	if e != api.OK || m == nil {
		t.Fatalf("Open of %d bytes: %v, %v", len(b), m, e)
	}
	return m
}

func checkBuild(t *testing.T, sections ...[]byte) {
	t.Helper()
	if got, want := built(t, sections...), formed(sections); !bytes.Equal(got, want) {
		t.Fatalf("Build of %d: %d bytes, not %d, or others: %x", len(sections), len(got), len(want), got[:264])
	}
}

func notBuilt(t *testing.T, sections [][]byte) {
	t.Helper()
	if b, e := Build(sections...); e != api.ErrMany || b != nil {
		t.Fatalf("Build of %d: %d bytes, %v", len(sections), len(b), e)
	}
}

func refused(t *testing.T, name string, b []byte) {
	t.Helper()
	if m, e := Open(b); e != api.ErrForm || m != nil {
		t.Fatalf("%s: Open of %d bytes: %v, %v", name, len(b), m, e)
	}
}

// refusedTwice is for bytes that are refused as they are and with their sums put right.
func refusedTwice(t *testing.T, name string, b []byte) {
	t.Helper()
	refused(t, name, b)
	refused(t, name+", mended", mended(b))
}

// checkImage asks an image for all that it should tell of these sections.
func checkImage(t *testing.T, m *Image, sections [][]byte) {
	t.Helper()
	if got := m.Sections(); got != len(sections) {
		t.Fatalf("Sections: %d, not %d", got, len(sections))
	}
	next := 1
	for s, want := range sections {
		if got := m.Size(s); got != len(want) {
			t.Fatalf("Size(%d): %d, not %d", s, got, len(want))
		}
		if got := m.First(s); got != next {
			t.Fatalf("First(%d): %d, not %d", s, got, next)
		}
		if got := m.Section(s); !bytes.Equal(got, want) {
			t.Fatalf("Section(%d): %x, not %x", s, got, want)
		}
		next += len(filled(want)) / 256
	}
	if got := m.Pages(); got != next {
		t.Fatalf("Pages: %d, not %d", got, next)
	}
	checkPages(t, m, bodyOf(sections))
	for _, n := range append([]int{next, next + 1}, extremes...) {
		noPage(t, m, n, api.ErrNone)
	}
	for _, s := range append([]int{len(sections), len(sections) + 1}, extremes...) {
		noSection(t, m, s)
	}
}

func checkPages(t *testing.T, m *Image, body []byte) {
	t.Helper()
	for n := range len(body) / 256 {
		if got, e := m.Page(n); e != api.OK || !bytes.Equal(got, body[n*256:n*256+256]) {
			t.Fatalf("Page(%d): %x, %v, not %x", n, got, e, body[n*256:n*256+256])
		}
	}
}

func noPage(t *testing.T, m *Image, n int, want api.Errno) {
	t.Helper()
	if 0 <= n && n < m.Pages() {
		return
	}
	if p, e := m.Page(n); p != nil || e != want {
		t.Fatalf("Page(%d): %x, %v, not %v", n, p, e, want)
	}
}

func noSection(t *testing.T, m *Image, s int) {
	t.Helper()
	if m.Size(s) != 0 || m.First(s) != 0 || len(m.Section(s)) != 0 {
		t.Fatalf("section %d: %d bytes from %d on: %x", s, m.Size(s), m.First(s), m.Section(s))
	}
}

// overwrite turns all bits of a list, those of its spare room too.
func overwrite(b []byte) {
	b = b[:cap(b)]
	for i := range b {
		b[i] ^= 255
	}
}

// P6.1

func TestBuild(t *testing.T) {
	for _, sizes := range lists() {
		checkBuild(t, samples(sizes...)...)
		var noughts, ones [][]byte
		for _, size := range sizes {
			noughts = append(noughts, make([]byte, size))
			ones = append(ones, bytes.Repeat([]byte{255}, size))
		}
		checkBuild(t, noughts...)
		checkBuild(t, ones...)
	}
}

func TestBuildOfEachSize(t *testing.T) {
	for size := range 1100 {
		checkBuild(t, sample(size, 1))
		checkBuild(t, nil, sample(size, 2), []byte("x"))
	}
}

func TestBuildOfEachNumberOfSections(t *testing.T) {
	for n := range 61 {
		checkBuild(t, samples(repeated(n, 0)...)...)
		checkBuild(t, samples(repeated(n, n)...)...)
		checkBuild(t, make([][]byte, n)...)
	}
}

func TestBuildOfNoSections(t *testing.T) {
	want := leaf(0, append([]byte("colo"), make([]byte, 252)...))
	for _, none := range [][][]byte{nil, {}, make([][]byte, 0, 9), samples(1, 2)[:0]} {
		if got := built(t, none...); !bytes.Equal(got, want) {
			t.Errorf("%x, not %x", got, want)
		}
	}
	if got := built(t); !bytes.Equal(got, want) {
		t.Errorf("%x, not %x", got, want)
	}
}

func TestBuildOfEmptySections(t *testing.T) {
	// Those that are nil, those that are empty, and those that have nothing but spare room are one.
	want := built(t, nil, nil, []byte("a"), nil)
	for _, none := range [][]byte{{}, make([]byte, 0, 300), sample(300, 3)[:0], sample(300, 3)[300:]} {
		if got := built(t, none, nil, []byte("a"), none); !bytes.Equal(got, want) {
			t.Errorf("%x, not %x", got, want)
		}
	}
	if len(want) != 2*264 {
		t.Errorf("%d bytes", len(want))
	}
}

func TestBuildLaysTheHead(t *testing.T) {
	for _, x := range []struct {
		sizes []int
		want  string
	}{
		{nil, "colo\x00\x00"},
		{[]int{0}, "colo\x01\x00\x00\x00\x00\x00"},
		{[]int{1}, "colo\x01\x00\x01\x00\x00\x00"},
		{[]int{255, 256, 257}, "colo\x03\x00\xff\x00\x00\x00\x00\x01\x00\x00\x01\x01\x00\x00"},
		{[]int{2, 0, 300}, "colo\x03\x00\x02\x00\x00\x00\x00\x00\x00\x00\x2c\x01\x00\x00"},
		{[]int{65535, 65536, 65537}, "colo\x03\x00\xff\xff\x00\x00\x00\x00\x01\x00\x01\x00\x01\x00"},
		{[]int{0xABCDE}, "colo\x01\x00\xde\xbc\x0a\x00"},
		{[]int{4095 * 256}, "colo\x01\x00\x00\xff\x0f\x00"},
		{repeated(60, 0), "colo\x3c\x00"},
		{repeated(60, 7), "colo\x3c\x00" + strings.Repeat("\x07\x00\x00\x00", 60)},
	} {
		got := built(t, samples(x.sizes...)...)[:256]
		if want := x.want + strings.Repeat("\x00", 256-len(x.want)); string(got) != want {
			t.Errorf("%v: %x, not %x", x.sizes, got, want)
		}
	}
}

func TestBuildOfNoughtsBehind(t *testing.T) {
	// Sections that end with noughts are as long as they are.
	for size := range 257 {
		b := append(sample(size, 4), make([]byte, 256-size)...)
		long, short := built(t, b), built(t, b[:size])
		if size < 256 && bytes.Equal(long, short) {
			t.Fatalf("%d bytes: alike", size)
		}
		if size > 0 && !bytes.Equal(long[264:], short[264:]) {
			t.Fatalf("%d bytes: %x, not %x", size, long[264:], short[264:])
		}
	}
}

func TestBuildOfTooManySections(t *testing.T) {
	for _, n := range []int{61, 62, 100, 255, 256, 257, 316, 65535, 65536, 65537, 65596} {
		notBuilt(t, make([][]byte, n))
	}
	notBuilt(t, samples(repeated(61, 1)...))
	notBuilt(t, samples(repeated(61, 257)...))
	notBuilt(t, append(samples(repeated(60, 1)...), nil))
	notBuilt(t, append([][]byte{nil}, samples(repeated(60, 256)...)...))
}

// full are sections' sizes that need 4096 pages, the head counted.
func full() [][]int {
	return [][]int{
		{4095 * 256}, {4094*256 + 1}, {4095*256 - 1}, {1, 4094 * 256}, {4094 * 256, 1}, {0, 4093*256 + 1, 0, 256, 0}, {2000 * 256, 2095 * 256},
		append(repeated(59, 1), 4036*256), append(repeated(15, 69*256), repeated(45, 67*256+1)...), append([]int{4036 * 256}, repeated(59, 256)...),
	}
}

func TestBuildOfAllPages(t *testing.T) {
	for _, sizes := range full() {
		sections := samples(sizes...)
		b := built(t, sections...)
		if want := formed(sections); !bytes.Equal(b, want) {
			t.Errorf("%v: %d bytes, not %d, or others", sizes, len(b), len(want))
		}
		if len(b) != 4096*264 || !bytes.Equal(b[4095*264+256:][:4], []byte{0xff, 0x0f, 0, 0}) {
			t.Errorf("%v: %d bytes, not 4096 pages, or the last one's number isn't 4095", sizes, len(b))
		}
	}
}

func TestBuildOfTooManyPages(t *testing.T) {
	for _, sizes := range [][]int{
		{4095*256 + 1}, {4096 * 256}, {4096*256 + 1}, {4097 * 256}, {1 << 23}, {1, 4094*256 + 1}, {4095 * 256, 1}, {1, 4095 * 256}, {0, 4095*256 + 1, 0},
		{2048 * 256, 2048 * 256}, {2047*256 + 1, 2047*256 + 1}, {4093 * 256, 1, 1, 1},
		append(repeated(59, 1), 4036*256+1), append(repeated(16, 69*256), repeated(44, 67*256+1)...), repeated(60, 69*256), append([]int{4037 * 256}, repeated(59, 1)...),
	} {
		notBuilt(t, samples(sizes...))
	}
	// Many sections of one great list need no memory of their own.
	great := make([]byte, 1<<26)
	notBuilt(t, slices.Repeat([][]byte{great}, 60))
	notBuilt(t, slices.Repeat([][]byte{great}, 1<<16))
}

func TestBuildIsNew(t *testing.T) {
	for _, sizes := range lists() {
		var rooms, was, sections [][]byte
		for i, size := range sizes {
			rooms = append(rooms, sample(size+300, uint32(i)))
			was = append(was, bytes.Clone(rooms[i]))
			sections = append(sections, rooms[i][:size])
		}
		want := formed(sections)
		list := append(slices.Clone(sections), []byte("spare"), nil, []byte("room"))
		first, second := built(t, list[:len(sizes)]...), built(t, list[:len(sizes)]...)
		for i := range rooms {
			if !bytes.Equal(rooms[i], was[i]) || len(list[i]) != sizes[i] || sizes[i] > 0 && &list[i][0] != &rooms[i][0] {
				t.Fatalf("%v: what was handed in changed", sizes)
			}
		}
		if n := len(sizes); string(list[n]) != "spare" || list[n+1] != nil || string(list[n+2]) != "room" {
			t.Fatalf("%v: the list's spare room: %q", sizes, list[n:])
		}
		for i := range rooms {
			overwrite(rooms[i])
		}
		if !bytes.Equal(first, want) || !bytes.Equal(second, want) {
			t.Fatalf("%v: changed with what was handed in", sizes)
		}
		overwrite(first)
		if !bytes.Equal(second, want) {
			t.Fatalf("%v: changed with another answer", sizes)
		}
		for i := range rooms {
			if overwrite(was[i]); !bytes.Equal(rooms[i], was[i]) {
				t.Fatalf("%v: what was handed in changed with an answer", sizes)
			}
		}
	}
}

func TestBuildThatIsRefusedLeavesItsSections(t *testing.T) {
	room := sample(4096*256+100, 5)
	was := bytes.Clone(room)
	notBuilt(t, [][]byte{room[:4095*256+1]})
	notBuilt(t, slices.Repeat([][]byte{room[:9]}, 61))
	if !bytes.Equal(room, was) {
		t.Error("what was handed in changed")
	}
}

// P6.2

func TestOpen(t *testing.T) {
	for _, sizes := range lists() {
		sections := samples(sizes...)
		checkImage(t, opened(t, formed(sections)), sections)
		checkImage(t, opened(t, built(t, sections...)), sections)
		var noughts [][]byte
		for _, size := range sizes {
			noughts = append(noughts, make([]byte, size))
		}
		checkImage(t, opened(t, formed(noughts)), noughts)
	}
}

func TestOpenOfEachSize(t *testing.T) {
	for size := range 1100 {
		sections := [][]byte{nil, sample(size, 6), []byte("x")}
		checkImage(t, opened(t, formed(sections)), sections)
	}
}

func TestOpenOfEachNumberOfSections(t *testing.T) {
	for n := range 61 {
		sections := samples(repeated(n, n)...)
		checkImage(t, opened(t, formed(sections)), sections)
		checkImage(t, opened(t, formed(make([][]byte, n))), make([][]byte, n))
	}
}

func TestOpenOfAllPages(t *testing.T) {
	for _, sizes := range full() {
		sections := samples(sizes...)
		b := formed(sections)
		checkImage(t, opened(t, b), sections)
		refused(t, "a page less", b[:len(b)-264])
	}
}

func TestOpenOfTooManyPages(t *testing.T) {
	for _, sizes := range [][]int{{4095*256 + 1}, {4096 * 256}, {1, 4095 * 256}, append(repeated(59, 1), 4036*256+1), {1 << 22}} {
		refused(t, "too many", formed(samples(sizes...)))
	}
}

func TestOpenOfNotEnough(t *testing.T) {
	refused(t, "nil", nil)
	refused(t, "empty", []byte{})
	b := formed(samples(300, 0, 7))
	for n := range b {
		// What stands in the spare room doesn't count.
		refusedTwice(t, "cut", b[:n])
		if n > 0 {
			refusedTwice(t, "cut ahead", b[n:])
		}
		refused(t, "noughts", make([]byte, n))
		refused(t, "sample", sample(n, 7))
	}
	checkImage(t, opened(t, b), samples(300, 0, 7))
}

func TestOpenOfMore(t *testing.T) {
	for _, sizes := range lists() {
		b := formed(samples(sizes...))
		count := len(b) / 264
		for _, more := range [][]byte{{0}, {255}, make([]byte, 100), make([]byte, 263), make([]byte, 264), make([]byte, 528), leaf(0, make([]byte, 256)), leaf(count, make([]byte, 256)), leaf(count, sample(256, 8))} {
			refusedTwice(t, "more", append(bytes.Clone(b), more...))
			refusedTwice(t, "more ahead", append(bytes.Clone(more), b...))
		}
		refusedTwice(t, "twice", append(bytes.Clone(b), b...))
		refused(t, "twice, numbered", numbered(append(bytes.Clone(b), b...)))
		refused(t, "a page more, numbered", numbered(append(bytes.Clone(b), make([]byte, 264)...)))
		refused(t, "a page more ahead, numbered", numbered(append(make([]byte, 264), b...)))
	}
}

func TestOpenOfLess(t *testing.T) {
	for _, sizes := range lists() {
		b := formed(samples(sizes...))
		for _, less := range []int{1, 4, 8, 100, 263, 264} {
			refusedTwice(t, "less", b[:len(b)-less])
			refusedTwice(t, "less ahead", b[less:])
			refused(t, "less ahead, numbered", numbered(b[less:]))
		}
	}
}

// pagesIn answers the pages of an image, each on its own.
func pagesIn(b []byte) [][]byte {
	return slices.Collect(slices.Chunk(b, 264))
}

func TestOpenOfPagesExchanged(t *testing.T) {
	b := formed(samples(600, 0, 256, 1))
	for i := range len(b) / 264 {
		for j := range i {
			l := pagesIn(b)
			l[i], l[j] = l[j], l[i]
			moved := bytes.Join(l, nil)
			refusedTwice(t, "exchanged", moved)
			// With other numbers only such pages may change their places as are full.
			_, want := laidAs(numbered(moved))
			if _, e := Open(numbered(moved)); (e == api.OK) != want || j == 0 && want || i == 5 && want {
				t.Errorf("%d and %d exchanged, numbered: %v", i, j, e)
			}
			l[i] = l[j]
			refusedTwice(t, "one for another", bytes.Join(l, nil))
		}
	}
	l := pagesIn(b)
	slices.Reverse(l)
	refusedTwice(t, "reversed", bytes.Join(l, nil))
	refused(t, "reversed, numbered", numbered(bytes.Join(l, nil)))
}

func TestOpenOfPagesDoubledOrLeftOut(t *testing.T) {
	b := formed(samples(600, 0, 256, 1))
	for i := range len(b) / 264 {
		doubled := bytes.Join(slices.Insert(pagesIn(b), i, pagesIn(b)[i]), nil)
		refusedTwice(t, "doubled", doubled)
		refused(t, "doubled, numbered", numbered(doubled))
		left := bytes.Join(slices.Delete(pagesIn(b), i, i+1), nil)
		refusedTwice(t, "left out", left)
		refused(t, "left out, numbered", numbered(left))
	}
}

func TestOpenOfOtherNumbers(t *testing.T) {
	b := formed(samples(300, 20))
	for i := range 4 {
		for _, n := range []uint64{0, 1, 2, 3, 4, 255, 256, 257, 4095, 4096, 4097, 65536, 1 << 24, 1<<24 + 1, 1 << 31, math.MaxUint32} {
			if n != uint64(i) {
				c := bytes.Clone(b)
				copy(c[i*264+256:], lowest(4, n))
				refusedTwice(t, "numbered", c)
			}
		}
	}
}

func TestOpenWithAWrongByte(t *testing.T) {
	b := formed(samples(300, 0, 20))
	for i := range b {
		for _, x := range []byte{1, 2, 4, 8, 16, 32, 64, 128, 255} {
			b[i] ^= x
			refused(t, "a wrong byte", b)
			b[i] ^= x
		}
	}
	checkImage(t, opened(t, b), samples(300, 0, 20))
}

// accepted answers how many other values of byte i are an image, once the sums are right.
func accepted(t *testing.T, b []byte, i int) int {
	t.Helper()
	c := bytes.Clone(b)
	many := 0
	for x := 1; x < 256; x++ {
		// Behind the first few lengths each bit alone, and all of them, will do.
		if i >= 20 && x&(x-1) != 0 && x != 255 {
			continue
		}
		c[i] = b[i] ^ byte(x)
		refused(t, "another byte", c)
		again := mended(c)
		sections, want := laidAs(again)
		m, e := Open(again)
		if want {
			if e != api.OK {
				t.Fatalf("byte %d as %d: %v", i, c[i], e)
			}
			checkImage(t, m, sections)
			many++
		} else if e != api.ErrForm || m != nil {
			t.Fatalf("byte %d as %d: %v, %v", i, c[i], m, e)
		}
	}
	return many
}

func TestOpenWithAnotherByteInTheHead(t *testing.T) {
	for _, x := range []struct {
		sizes []int
		many  map[int]int // by the byte, how many other values are an image still; of each other byte none
	}{
		// More sections can be named, empty ones, where noughts follow.
		{nil, map[int]int{4: 60}},
		{[]int{0}, map[int]int{4: 60}},
		{[]int{256}, map[int]int{4: 59}},
		// A section can be longer by noughts that follow it, up to its page's end.
		{[]int{100}, map[int]int{4: 59, 6: 155}},
		{[]int{300, 0, 20}, map[int]int{4: 57, 6: 211, 14: 235}},
		{[]int{255, 1}, map[int]int{4: 58, 10: 254}},
		{[]int{257, 257}, map[int]int{4: 58, 6: 254, 10: 254}},
		{repeated(60, 0), map[int]int{4: 60}},
		{append(repeated(59, 0), 256), map[int]int{}},
	} {
		b := formed(samples(x.sizes...))
		for i := range 256 {
			if got := accepted(t, b, i); got != x.many[i] {
				t.Fatalf("%v: byte %d: %d other values are an image, not %d", x.sizes, i, got, x.many[i])
			}
		}
	}
}

func TestOpenWithAnotherByteInANought(t *testing.T) {
	sizes := []int{1, 0, 255, 256, 257, 300, 0}
	sections := samples(sizes...)
	body := bodyOf(sections)
	at := 256
	for s, size := range sizes {
		end := at + len(filled(sections[s]))
		for i := at + size; i < end; i++ {
			for _, x := range []byte{1, 2, 128, 255} {
				body[i] = x
				refused(t, "no nought", paged(body))
				body[i] = 0
			}
		}
		at = end
	}
	for i := 6 + 4*len(sizes); i < 256; i++ {
		for _, x := range []byte{1, 2, 128, 255} {
			body[i] = x
			refused(t, "no nought in the head", paged(body))
			body[i] = 0
		}
	}
	checkImage(t, opened(t, paged(body)), sections)
}

func TestOpenWithAnotherByteInASection(t *testing.T) {
	// With its sums put right it is the image of another section.
	sections := samples(300, 0, 20)
	body := bodyOf(sections)
	for i := 256; i < 256+300; i++ {
		for _, x := range []byte{0, 1, 77, 255} {
			c := bytes.Clone(body)
			c[i] = x
			changed := [][]byte{bytes.Clone(sections[0]), nil, sections[2]}
			changed[0][i-256] = x
			checkImage(t, opened(t, paged(c)), changed)
		}
	}
}

func TestOpenOfOtherNamesOfAnImage(t *testing.T) {
	body := bodyOf(samples(3, 300))
	for _, word := range []string{"", "olo", "Colo", "COLO", "colO", "oloc", "coll", "cola", "xolo"} {
		c := bytes.Clone(body)
		copy(c[:4], append([]byte(word), make([]byte, 4)...)[:4])
		refused(t, word, paged(c))
	}
	refused(t, "noughts", paged(make([]byte, 256)))
	refused(t, "sample", paged(sample(256, 9)))
	refused(t, "ones", paged(bytes.Repeat([]byte{255}, 256)))
}

func TestOpenOfNumbersOfSections(t *testing.T) {
	for _, sizes := range [][]int{{1, 256, 600}, {3, 0, 600, 1}, repeated(60, 1), {512}} {
		sections := samples(sizes...)
		body := bodyOf(sections)
		for n := range 1 << 16 {
			copy(body[4:6], lowest(2, uint64(n)))
			b := leaf(0, body[:256])
			// Of most numbers the head alone tells that they don't fit; all pages stand behind those that could.
			if n <= 300 || bits.OnesCount(uint(n/256)) == 1 && n%256 <= 61 {
				b = paged(body)
			}
			fits := n >= len(sections) && n <= 60
			if m, e := Open(b); (e == api.OK) != fits || fits && (m.Sections() != n || m.Pages() != len(body)/256) || !fits && (m != nil || e != api.ErrForm) {
				t.Fatalf("%v, %d sections: %v", sizes, n, e)
			}
		}
	}
}

func TestOpenOfLengths(t *testing.T) {
	pages := []byte(nil)
	for _, s := range samples(300, 256, 1) {
		pages = append(pages, filled(s)...)
	}
	for _, l := range [][]uint64{
		// Fewer or more pages than there are.
		{}, {0}, {256}, {300}, {300, 256}, {300, 256, 0}, {300, 256, 257}, {300, 257, 1}, {300, 0, 1}, {513, 256, 1}, {0, 256, 1}, {1025}, {1023, 1, 1},
		// Shorter ones, behind which no noughts stand.
		{300, 255, 1}, {299, 256, 1}, {257, 256, 1}, {300, 1, 1},
		// Numbers of which the bytes or the pages run over, one of them or all of them together.
		{1 << 31, 1 << 31, 1024}, {1 << 31, 1 << 31, 300, 256, 1}, {1<<32 - 256, 256, 300, 256, 1}, {1<<32 - 256, 300, 512, 1}, {1<<32 - 1}, {1<<32 - 1, 1}, {1 << 31}, {1<<31 - 1},
		{1<<32 - 1, 1<<32 - 1, 1<<32 - 1}, {1<<31 + 300, 256, 1}, {1<<24 + 300, 256, 1}, {1<<16 + 300, 256, 1}, {1<<20 + 300, 256, 1}, {300, 256, 1 << 20}, {1 << 20}, {1<<20 + 1},
		{300, 256, 1, 1 << 31, 1 << 31}, {300, 256, 1, 1<<32 - 256, 256}, {300, 256, 1, 1},
	} {
		refused(t, "lengths", paged(append(headed(uint64(len(l)), l...), pages...)))
	}
	many := slices.Repeat([]uint64{1<<32 - 256}, 60)
	refused(t, "sixty great ones", paged(append(headed(60, many...), pages...)))
	for _, l := range [][]uint64{{300, 256, 1}, {300, 256, 256}, {512, 256, 1}, {301, 0, 256, 2, 0}, {512, 512}, {256, 44, 256, 1}, {1024}, {769}} {
		b := paged(append(headed(uint64(len(l)), l...), pages...))
		sections, want := laidAs(b)
		m, e := Open(b)
		if !want || e != api.OK {
			t.Fatalf("%v: %v, %v", l, want, e)
		}
		checkImage(t, m, sections)
	}
}

func TestOpenOfTurnedRows(t *testing.T) {
	b := formed(samples(300))
	x := uint32(10)
	for at := range 8 * len(b) {
		for range 3 {
			x = x*1664525 + 1013904223
			row := x>>(x>>3%32) | 1
			c := bytes.Clone(b)
			for j := range 32 {
				// A row stands within a page.
				if row>>j&1 == 1 && (at+j)/8/264 == at/8/264 {
					c[(at+j)/8] ^= 1 << ((at + j) % 8)
				}
			}
			refused(t, "a turned row", c)
		}
	}
}

func TestOpenKeepsNothing(t *testing.T) {
	for _, sizes := range lists() {
		sections := samples(sizes...)
		b := formed(sections)
		room := append(bytes.Clone(b), sample(600, 11)...)
		was := bytes.Clone(room)
		first, second := opened(t, room[:len(b)]), opened(t, room[:len(b)])
		if !bytes.Equal(room, was) {
			t.Fatalf("%v: what was handed in changed", sizes)
		}
		overwrite(room)
		was = bytes.Clone(room)
		checkImage(t, first, sections)
		checkImage(t, second, sections)
		for s := range sections {
			overwrite(first.Section(s))
		}
		for n := range first.Pages() {
			p, _ := first.Page(n)
			overwrite(p)
		}
		if !bytes.Equal(room, was) {
			t.Fatalf("%v: what was handed in changed with an answer", sizes)
		}
	}
}

func TestOpenThatIsRefusedLeavesItsBytes(t *testing.T) {
	b := formed(samples(300, 20))
	room := append(bytes.Clone(b), sample(600, 12)...)
	room[264+200] ^= 1
	was := bytes.Clone(room)
	for _, n := range []int{0, 1, 263, 264, 265, 528, len(b) - 1, len(b), len(b) + 1, len(room)} {
		refused(t, "cut or wrong", room[:n])
	}
	if !bytes.Equal(room, was) {
		t.Error("what was handed in changed")
	}
}

func TestOpenAgain(t *testing.T) {
	// What is refused leaves no trace in what is opened, nor the other way round.
	b := formed(samples(300, 20))
	wrong := mended(append([]byte("x"), b[1:]...))
	for range 3 {
		m := opened(t, b)
		refused(t, "a wrong name", wrong)
		checkImage(t, m, samples(300, 20))
	}
}

// P6.3

func TestSections(t *testing.T) {
	m := opened(t, built(t, samples(3, 0, 600, 1, 0, 256, 0, 0)...))
	if m.Sections() != 8 || m.Pages() != 7 {
		t.Errorf("%d sections, %d pages", m.Sections(), m.Pages())
	}
	for s, want := range []struct{ size, first int }{{3, 1}, {0, 2}, {600, 2}, {1, 5}, {0, 6}, {256, 6}, {0, 7}, {0, 7}} {
		if m.Size(s) != want.size || m.First(s) != want.first {
			t.Errorf("section %d: %d bytes from %d on, not %v", s, m.Size(s), m.First(s), want)
		}
	}
	for _, s := range append([]int{8, 9, 59, 60}, extremes...) {
		noSection(t, m, s)
	}
}

func TestImageOfNoSections(t *testing.T) {
	m := opened(t, built(t))
	if m.Sections() != 0 || m.Pages() != 1 {
		t.Errorf("%d sections, %d pages", m.Sections(), m.Pages())
	}
	if p, e := m.Page(0); e != api.OK || !bytes.Equal(p, append([]byte("colo"), make([]byte, 252)...)) {
		t.Errorf("%x, %v", p, e)
	}
	for _, n := range append([]int{1, 2}, extremes...) {
		noPage(t, m, n, api.ErrNone)
		noSection(t, m, n)
	}
	noSection(t, m, 0)
}

func TestImageOfEmptySections(t *testing.T) {
	m := opened(t, built(t, make([][]byte, 60)...))
	for s := range 60 {
		if m.Size(s) != 0 || m.First(s) != 1 || len(m.Section(s)) != 0 {
			t.Errorf("section %d: %d bytes from %d on", s, m.Size(s), m.First(s))
		}
	}
	noSection(t, m, 60)
	noPage(t, m, 1, api.ErrNone)
}

func TestPages(t *testing.T) {
	sections := samples(255, 256, 257)
	b := built(t, sections...)
	m := opened(t, b)
	for n := range 5 {
		p, e := m.Page(n)
		if e != api.OK || len(p) != 256 || !bytes.Equal(p, b[n*264:n*264+256]) {
			t.Errorf("Page(%d): %x, %v", n, p, e)
		}
	}
	for _, n := range append([]int{-1, 5, 6, 260, 4095}, extremes...) {
		noPage(t, m, n, api.ErrNone)
	}
}

func TestImageIsNoOthers(t *testing.T) {
	for _, sizes := range lists() {
		sections := samples(sizes...)
		b := formed(sections)
		m, other := opened(t, b), opened(t, b)
		for s := range sections {
			first, second := m.Section(s), m.Section(s)
			overwrite(first)
			if !bytes.Equal(second, sections[s]) {
				t.Fatalf("%v: section %d changed with another answer", sizes, s)
			}
			overwrite(second)
		}
		for n := range m.Pages() {
			first, _ := m.Page(n)
			second, _ := m.Page(n)
			overwrite(first)
			if !bytes.Equal(second, b[n*264:n*264+256]) {
				t.Fatalf("%v: page %d changed with another answer", sizes, n)
			}
			overwrite(second)
		}
		// Growing an answer within its room would reach what follows, if the room were not its own.
		for n := range m.Pages() {
			p, _ := m.Page(n)
			_ = append(p, 1, 2, 3)
		}
		for s := range sections {
			_ = append(m.Section(s), 4, 5, 6)
		}
		_ = append(m.Section(-1), 7)
		checkImage(t, m, sections)
		checkImage(t, other, sections)
	}
}

func TestNilImage(t *testing.T) {
	var m *Image
	if m.Sections() != 0 || m.Pages() != 0 {
		t.Errorf("%d sections, %d pages", m.Sections(), m.Pages())
	}
	for _, n := range append([]int{0, 1, 2, 59, 60}, extremes...) {
		noPage(t, m, n, api.ErrNil)
		noSection(t, m, n)
	}
}

// The chapter's examples.

func TestExamples(t *testing.T) {
	long := sample(300, 13)
	b := built(t, []byte("ab"), []byte(""), long)
	m := opened(t, b)
	if len(b) != 4*264 || m.Pages() != 4 || m.First(0) != 1 || m.First(2) != 2 {
		t.Errorf("%d bytes, %d pages, first %d, %d", len(b), m.Pages(), m.First(0), m.First(2))
	}
	third, _ := m.Page(3)
	if !bytes.Equal(third[:44], long[256:]) || !bytes.Equal(third[44:], make([]byte, 212)) {
		t.Errorf("%x", third)
	}
}
