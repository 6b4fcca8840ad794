package crc

import (
	"bytes"
	"hash/crc32"
	"slices"
	"testing"

	"colophon/api"
)

// sample answers n bytes that look like no rule.
func sample(n int, seed uint32) []byte {
	l := make([]byte, n)
	x := seed
	for i := range l {
		x = x*1664525 + 1013904223
		l[i] = byte(x >> 24)
	}
	return l
}

// reckoned answers the sum as the chapter's sentence has it, shift by shift.
func reckoned(b []byte) uint32 {
	register := uint32(0xFFFFFFFF)
	for _, x := range b {
		register ^= uint32(x)
		for range 8 {
			out := register & 1
			register >>= 1
			if out == 1 {
				register ^= 0xEDB88320
			}
		}
	}
	return register ^ 0xFFFFFFFF
}

// behind answers b and the reckoned sum behind it, the lowest byte first.
func behind(b []byte) []byte {
	s := reckoned(b)
	return append(bytes.Clone(b), byte(s), byte(s>>8), byte(s>>16), byte(s>>24))
}

// sizes are of no bytes, of one, of few and of those of pages.
var sizes = []int{0, 1, 2, 3, 4, 5, 7, 8, 9, 16, 31, 63, 64, 65, 255, 256, 260, 264, 1000}

func checkSum(t *testing.T, want uint32, parts ...[]byte) {
	t.Helper()
	if got := Sum(parts...); got != want {
		t.Fatalf("%d parts: %08x, not %08x", len(parts), got, want)
	}
}

func checkPut(t *testing.T, b []byte) {
	t.Helper()
	if got, want := Put(b), behind(b); !bytes.Equal(got, want) {
		t.Fatalf("%d bytes: %x, not %x", len(b), got, want)
	}
}

func checkCut(t *testing.T, b, want []byte) {
	t.Helper()
	if got, e := Cut(b); e != api.OK || !bytes.Equal(got, want) {
		t.Fatalf("%d bytes: %x, %v, not %x", len(b), got, e, want)
	}
}

func refused(t *testing.T, b []byte, want api.Errno) {
	t.Helper()
	if got, e := Cut(b); e != want || got != nil {
		t.Fatalf("%d bytes: %x: %x, %v, not %v", len(b), b, got, e, want)
	}
}

// P4.1

func TestKnownSums(t *testing.T) {
	for text, want := range map[string]uint32{
		"":          0,
		"a":         0xE8B7BE43,
		"abc":       0x352441C2,
		"123456789": 0xCBF43926,
		"The quick brown fox jumps over the lazy dog": 0x414FA339,
		"\x00\x00\x00\x00": 0x2144DF1C,
		"\xff\xff\xff\xff": 0xFFFFFFFF,
	} {
		checkSum(t, want, []byte(text))
	}
}

func TestSumOfNothing(t *testing.T) {
	var none [][]byte
	checkSum(t, 0)
	checkSum(t, 0, none...)
	checkSum(t, 0, [][]byte{}...)
	checkSum(t, 0, nil)
	checkSum(t, 0, []byte{})
	checkSum(t, 0, nil, []byte{}, nil, []byte{})
}

func TestSumOfOneByte(t *testing.T) {
	for x := range 256 {
		checkSum(t, reckoned([]byte{byte(x)}), []byte{byte(x)})
	}
}

func TestSumOfTwoBytes(t *testing.T) {
	for x := range 1 << 16 {
		b := []byte{byte(x), byte(x >> 8)}
		checkSum(t, reckoned(b), b)
	}
}

func TestSumOfManyBytes(t *testing.T) {
	for _, n := range append([]int{1 << 16, 1<<20 + 1}, sizes...) {
		for _, b := range [][]byte{sample(n, 1), make([]byte, n), bytes.Repeat([]byte{255}, n)} {
			checkSum(t, reckoned(b), b)
			checkSum(t, crc32.ChecksumIEEE(b), b)
		}
	}
}

func TestSumOfTwoParts(t *testing.T) {
	for _, n := range sizes {
		b := sample(n, 2)
		want := reckoned(b)
		for i := range n + 1 {
			checkSum(t, want, b[:i], b[i:])
			checkSum(t, want, nil, b[:i], []byte{}, nil, b[i:], []byte{})
		}
	}
}

func TestSumOfManyParts(t *testing.T) {
	b := sample(300, 3)
	want := reckoned(b)
	for size := 1; size <= len(b); size++ {
		var parts, apart [][]byte
		for part := range slices.Chunk(b, size) {
			parts = append(parts, part)
			apart = append(apart, nil, part, []byte{})
		}
		checkSum(t, want, parts...)
		checkSum(t, want, apart...)
	}
}

func TestSumByTheOrderOfParts(t *testing.T) {
	a, b := []byte("12345"), []byte("6789")
	checkSum(t, 0xCBF43926, a, b)
	checkSum(t, reckoned([]byte("678912345")), b, a)
	checkSum(t, reckoned([]byte("1234512345")), a, a)
}

func TestSumLeavesItsParts(t *testing.T) {
	room := sample(40, 4)
	was := bytes.Clone(room)
	parts := [][]byte{room[:7], nil, room[10:30], room[40:]}
	want := Sum(parts[:3]...)
	if !bytes.Equal(room, was) {
		t.Errorf("%x, not %x", room, was)
	}
	if len(parts[0]) != 7 || parts[1] != nil || len(parts[2]) != 20 || &parts[2][0] != &room[10] || parts[3] == nil {
		t.Errorf("the parts: %v", parts)
	}
	checkSum(t, want, parts[:3]...)
	// What was told hangs on the bytes of then, what is told on those of now.
	for i := range room {
		room[i] ^= 255
	}
	checkSum(t, reckoned(append(bytes.Clone(room[:7]), room[10:30]...)), parts[:3]...)
}

// P4.2

func TestPut(t *testing.T) {
	for _, n := range append([]int{1 << 16}, sizes...) {
		for seed := range uint32(8) {
			checkPut(t, sample(n, seed))
		}
		checkPut(t, make([]byte, n))
		checkPut(t, bytes.Repeat([]byte{255}, n))
	}
	for x := range 256 {
		checkPut(t, []byte{byte(x)})
	}
}

func TestPutOfNoBytes(t *testing.T) {
	for _, b := range [][]byte{nil, {}} {
		if got := Put(b); !bytes.Equal(got, []byte{0, 0, 0, 0}) {
			t.Errorf("%x", got)
		}
	}
}

func TestPutIsNew(t *testing.T) {
	for _, n := range sizes {
		room := sample(n+20, 5)
		was := bytes.Clone(room)
		first, second := Put(room[:n]), Put(room[:n])
		if !bytes.Equal(room, was) {
			t.Fatalf("%d bytes: what was handed in: %x, not %x", n, room, was)
		}
		want := behind(was[:n])
		overwrite(room)
		if !bytes.Equal(first, want) || !bytes.Equal(second, want) {
			t.Fatalf("%d bytes, changed after: %x, %x, not %x", n, first, second, want)
		}
		was = bytes.Clone(room)
		overwrite(first)
		if !bytes.Equal(second, want) || !bytes.Equal(room, was) {
			t.Fatalf("%d bytes, the answer changed: %x, %x", n, second, room)
		}
	}
}

// overwrite turns all bits of a list, those of its spare room too.
func overwrite(b []byte) {
	b = b[:cap(b)]
	for i := range b {
		b[i] ^= 255
	}
}

func TestCutOfTooFewBytes(t *testing.T) {
	refused(t, nil, api.ErrShort)
	for n := range 4 {
		refused(t, make([]byte, n), api.ErrShort)
		refused(t, sample(n, 6), api.ErrShort)
		refused(t, bytes.Repeat([]byte{255}, n), api.ErrShort)
		// What stands in the spare room doesn't count.
		refused(t, Put([]byte("a"))[:n], api.ErrShort)
	}
}

func TestCutOfFourBytes(t *testing.T) {
	checkCut(t, []byte{0, 0, 0, 0}, nil)
	for i := range 4 {
		for x := 1; x < 256; x++ {
			b := make([]byte, 4)
			b[i] = byte(x)
			refused(t, b, api.ErrSum)
		}
	}
	for seed := range uint32(100) {
		refused(t, sample(4, seed), api.ErrSum)
	}
	refused(t, []byte{255, 255, 255, 255}, api.ErrSum)
}

func TestCut(t *testing.T) {
	for _, n := range append([]int{1 << 16}, sizes...) {
		for _, b := range [][]byte{sample(n, 7), make([]byte, n), bytes.Repeat([]byte{255}, n)} {
			checkCut(t, behind(b), b)
		}
	}
}

func TestCutWithAWrongByte(t *testing.T) {
	for _, n := range sizes {
		b := behind(sample(n, 8))
		for i := range b {
			last := i >= n
			for x := 1; x < 256; x++ {
				// Of the bytes ahead of the sum each bit alone, and all of them, will do.
				if !last && x&(x-1) != 0 && x != 255 {
					continue
				}
				b[i] ^= byte(x)
				refused(t, b, api.ErrSum)
				b[i] ^= byte(x)
			}
		}
		checkCut(t, b, b[:n])
	}
}

func TestCutOfASumLaidOtherwise(t *testing.T) {
	b := []byte("123456789")
	for _, sum := range []string{"\xcb\xf4\x39\x26", "\x39\x26\xcb\xf4", "\xf4\xcb\x26\x39", "\xd9\xc6\x0b\x34", "\x00\x00\x00\x00"} {
		refused(t, append(bytes.Clone(b), sum...), api.ErrSum)
		refused(t, append([]byte(sum), b...), api.ErrSum)
	}
	checkCut(t, append(bytes.Clone(b), "\x26\x39\xf4\xcb"...), b)
}

func TestCutOfMoreOrLess(t *testing.T) {
	for _, n := range sizes[1:] {
		p := behind(sample(n, 9))
		refused(t, p[1:], api.ErrSum)
		refused(t, p[:len(p)-1], api.ErrSum)
		refused(t, append(bytes.Clone(p), 0), api.ErrSum)
		refused(t, append([]byte{0}, p...), api.ErrSum)
	}
}

func TestCutIsNew(t *testing.T) {
	for _, n := range sizes {
		b := sample(n, 10)
		room := append(behind(b), sample(20, 11)...)
		was := bytes.Clone(room)
		first, e := Cut(room[:n+4])
		second, again := Cut(room[:n+4])
		if e != api.OK || again != api.OK || !bytes.Equal(room, was) {
			t.Fatalf("%d bytes: %v, %v: what was handed in: %x, not %x", n, e, again, room, was)
		}
		overwrite(room)
		if !bytes.Equal(first, b) || !bytes.Equal(second, b) {
			t.Fatalf("%d bytes, changed after: %x, %x, not %x", n, first, second, b)
		}
		was = bytes.Clone(room)
		overwrite(first)
		if !bytes.Equal(second, b) || !bytes.Equal(room, was) {
			t.Fatalf("%d bytes, the answer changed: %x, %x", n, second, room)
		}
	}
}

func TestCutThatIsRefusedLeavesItsBytes(t *testing.T) {
	for _, n := range []int{0, 1, 3, 4, 5, 264} {
		room := sample(n+20, 12)
		was := bytes.Clone(room)
		if _, e := Cut(room[:n]); e == api.OK {
			t.Fatalf("%d bytes: %v", n, e)
		}
		if !bytes.Equal(room, was) {
			t.Errorf("%d bytes: %x, not %x", n, room, was)
		}
	}
}

// P4.3

func TestPutIsCut(t *testing.T) {
	for n := range 300 {
		b := sample(n, uint32(n))
		checkCut(t, Put(b), b)
		// What is put can be put again.
		checkCut(t, Put(Put(b)), Put(b))
	}
}

// turn turns those bits, from the bit at on, that a row has as ones.
func turn(b []byte, at int, row uint32) {
	for j := range 32 {
		if row>>j&1 == 1 {
			b[(at+j)/8] ^= 1 << ((at + j) % 8)
		}
	}
}

// checkRow turns a row of so many bits at each place of what is put, in the sum and across its beginning too.
func checkRow(t *testing.T, p []byte, bits int, row uint32) {
	t.Helper()
	for at := range 8*len(p) - bits + 1 {
		turn(p, at, row)
		if got, e := Cut(p); e != api.ErrSum || got != nil {
			t.Fatalf("%d bytes, row %x of %d bits at %d: %x, %v", len(p), row, bits, at, got, e)
		}
		turn(p, at, row)
	}
}

func TestTurnedRows(t *testing.T) {
	for _, n := range []int{0, 1, 2, 3, 4, 5, 9, 31, 260} {
		b := sample(n, 13)
		p := Put(b)
		x := uint32(14)
		for bits := 1; bits <= 32; bits++ {
			all := uint32(1<<bits - 1)
			ends := uint32(1 | 1<<(bits-1))
			x = x*1664525 + 1013904223
			for _, row := range []uint32{all, ends, x&all | ends, 0x55555555&all | ends} {
				checkRow(t, p, bits, row)
			}
		}
		checkCut(t, p, b)
	}
}

func TestEveryRowOfFewBits(t *testing.T) {
	for _, n := range []int{0, 1, 5} {
		p := Put(sample(n, 15))
		for row := uint32(1); row < 1<<12; row++ {
			checkRow(t, p, 12, row)
		}
	}
}

func TestTurnedRowsOfOtherBytes(t *testing.T) {
	for _, b := range [][]byte{make([]byte, 40), bytes.Repeat([]byte{255}, 40), []byte("123456789")} {
		p := Put(b)
		for bits := 1; bits <= 32; bits++ {
			checkRow(t, p, bits, 1<<bits-1)
		}
	}
}

// The chapter's examples.

func TestExamples(t *testing.T) {
	if got := Sum([]byte("123456789")); got != 0xCBF43926 {
		t.Errorf("%X", got)
	}
	if got := Put([]byte("")); !bytes.Equal(got, []byte{0, 0, 0, 0}) {
		t.Errorf("%v", got)
	}
}
