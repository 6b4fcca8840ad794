package page

import (
	"bytes"
	"hash/crc32"
	"math"
	"testing"

	"colophon/api"
)

// sample answers n bytes that look like no rule, none of them a nought.
func sample(n int, seed uint32) []byte {
	l := make([]byte, n)
	x := seed
	for i := range l {
		x = x*1664525 + 1013904223
		l[i] = byte(x>>24) | 1
	}
	return l
}

// lowest answers a number in four bytes, the lowest one first.
func lowest(n uint32) []byte {
	return []byte{byte(n), byte(n >> 8), byte(n >> 16), byte(n >> 24)}
}

// formed answers a page as the chapter's form has it, of any number that four bytes have.
func formed(n uint32, b []byte) []byte {
	p := append(bytes.Clone(b), make([]byte, 256-len(b))...)
	p = append(p, lowest(n)...)
	return append(p, lowest(crc32.ChecksumIEEE(p))...)
}

// sizes are of how many bytes a page may be given.
var sizes = []int{0, 1, 2, 3, 4, 100, 252, 253, 254, 255, 256}

// numbers are pages' numbers, the least, the greatest, and those about a byte's end.
var numbers = []int{0, 1, 2, 127, 128, 254, 255, 256, 257, 258, 511, 512, 2047, 2048, 4094, 4095}

// wrongNumbers are no pages' ones, some of them with lower bytes that would be.
var wrongNumbers = []int{-1, -2, -255, -256, -4095, -4096, 4096, 4097, 8191, 8192, 65535, 65536, 65537, 1 << 24, math.MaxInt32, math.MinInt32, math.MinInt, math.MinInt + 1, math.MaxInt - 4095, math.MaxInt}

func made(t *testing.T, n int, b []byte) []byte {
	t.Helper()
	p, e := Put(n, b)
	if e != api.OK || len(p) != 264 {
		t.Fatalf("Put(%d, %d bytes): %d bytes, %v", n, len(b), len(p), e)
	}
	return p
}

func checkPut(t *testing.T, n int, b []byte) {
	t.Helper()
	if got, want := made(t, n, b), formed(uint32(n), b); !bytes.Equal(got, want) {
		t.Fatalf("Put(%d, %d bytes): %x, not %x", n, len(b), got, want)
	}
}

func checkGet(t *testing.T, p []byte, n int, b []byte) {
	t.Helper()
	want := append(bytes.Clone(b), make([]byte, 256-len(b))...)
	if i, got, e := Get(p); e != api.OK || i != n || !bytes.Equal(got, want) {
		t.Fatalf("Get: %d, %x, %v, not %d, %x", i, got, e, n, want)
	}
}

func notPut(t *testing.T, n int, b []byte, want api.Errno) {
	t.Helper()
	if p, e := Put(n, b); e != want || p != nil {
		t.Fatalf("Put(%d, %d bytes): %x, %v, not %v", n, len(b), p, e, want)
	}
}

func refused(t *testing.T, p []byte, want api.Errno) {
	t.Helper()
	if n, b, e := Get(p); e != want || n != 0 || b != nil {
		t.Fatalf("Get(%d bytes): %d, %x, %v, not %v: %x", len(p), n, b, e, want, p)
	}
}

// overwrite turns all bits of a list, those of its spare room too.
func overwrite(b []byte) {
	b = b[:cap(b)]
	for i := range b {
		b[i] ^= 255
	}
}

// P5.1

func TestPut(t *testing.T) {
	for _, n := range numbers {
		for _, size := range sizes {
			checkPut(t, n, sample(size, uint32(n+size)))
			checkPut(t, n, make([]byte, size))
			checkPut(t, n, bytes.Repeat([]byte{255}, size))
		}
	}
}

func TestPutOfEachNumber(t *testing.T) {
	b := sample(9, 1)
	for n := range 4096 {
		checkPut(t, n, b)
	}
}

func TestPutOfEachSize(t *testing.T) {
	for size := range 257 {
		checkPut(t, 3, sample(size, 2))
	}
}

func TestPutLaysTheNumber(t *testing.T) {
	for n, want := range map[int]string{
		0: "\x00\x00\x00\x00", 1: "\x01\x00\x00\x00", 255: "\xff\x00\x00\x00", 256: "\x00\x01\x00\x00",
		258: "\x02\x01\x00\x00", 0xABC: "\xbc\x0a\x00\x00", 4095: "\xff\x0f\x00\x00",
	} {
		if got := made(t, n, sample(256, 3))[256:260]; string(got) != want {
			t.Errorf("%d: %x, not %x", n, got, want)
		}
	}
}

func TestPutOfNoBytes(t *testing.T) {
	for _, n := range numbers {
		for _, b := range [][]byte{nil, {}, make([]byte, 0, 300), sample(300, 4)[:0]} {
			checkPut(t, n, b)
		}
	}
}

func TestPutOfNoughtsBehind(t *testing.T) {
	// Noughts that are given, and those that are not, make the same page.
	for size := range 256 {
		b := append(sample(size, 5), make([]byte, 256-size)...)
		if got, want := made(t, 7, b[:size]), made(t, 7, b); !bytes.Equal(got, want) {
			t.Fatalf("%d bytes: %x, not %x", size, got, want)
		}
	}
}

func TestPutOfWrongNumbers(t *testing.T) {
	for _, n := range wrongNumbers {
		for _, size := range sizes {
			notPut(t, n, sample(size, 6), api.ErrArg)
		}
		notPut(t, n, nil, api.ErrArg)
	}
}

func TestPutOfTooManyBytes(t *testing.T) {
	for _, n := range numbers {
		for _, size := range []int{257, 258, 260, 264, 511, 512, 1 << 16} {
			notPut(t, n, sample(size, 7), api.ErrMany)
			notPut(t, n, make([]byte, size), api.ErrMany)
		}
	}
}

func TestPutOfBothWrong(t *testing.T) {
	for _, n := range wrongNumbers {
		for _, size := range []int{257, 264, 1 << 16} {
			notPut(t, n, make([]byte, size), api.ErrArg)
		}
	}
}

func TestPutIsNew(t *testing.T) {
	for _, size := range sizes {
		room := sample(300, 8)
		was := bytes.Clone(room)
		first, second := made(t, 300, room[:size]), made(t, 300, room[:size])
		if !bytes.Equal(room, was) {
			t.Fatalf("%d bytes: what was handed in: %x, not %x", size, room, was)
		}
		want := formed(300, was[:size])
		overwrite(room)
		if !bytes.Equal(first, want) || !bytes.Equal(second, want) {
			t.Fatalf("%d bytes, changed after: %x, %x, not %x", size, first, second, want)
		}
		was = bytes.Clone(room)
		overwrite(first)
		if !bytes.Equal(second, want) || !bytes.Equal(room, was) {
			t.Fatalf("%d bytes, the answer changed: %x, %x", size, second, room)
		}
		// Nothing of an earlier page stands in a later one.
		checkPut(t, 1, nil)
	}
}

func TestPutThatIsRefusedLeavesItsBytes(t *testing.T) {
	room := sample(400, 9)
	was := bytes.Clone(room)
	notPut(t, 0, room[:257], api.ErrMany)
	notPut(t, 4096, room[:256], api.ErrArg)
	notPut(t, -1, room[:300], api.ErrArg)
	if !bytes.Equal(room, was) {
		t.Errorf("%x, not %x", room, was)
	}
}

// P5.2

func TestGet(t *testing.T) {
	for _, n := range numbers {
		for _, size := range sizes {
			for _, b := range [][]byte{sample(size, uint32(n)), make([]byte, size), bytes.Repeat([]byte{255}, size)} {
				checkGet(t, formed(uint32(n), b), n, b)
			}
		}
	}
}

func TestGetOfWhatIsPut(t *testing.T) {
	for n := range 4096 {
		b := sample(n%257, uint32(n))
		checkGet(t, made(t, n, b), n, b)
	}
	for _, b := range [][]byte{nil, {}} {
		checkGet(t, made(t, 0, b), 0, nil)
		checkGet(t, made(t, 4095, b), 4095, nil)
	}
}

func TestGetOfTooFewBytes(t *testing.T) {
	refused(t, nil, api.ErrShort)
	p := formed(5, sample(256, 10))
	for n := range 264 {
		// What stands in the spare room doesn't count.
		refused(t, p[:n], api.ErrShort)
		refused(t, p[264-n:], api.ErrShort)
		refused(t, make([]byte, n), api.ErrShort)
		refused(t, sample(n, 11), api.ErrShort)
	}
}

func TestGetOfTooManyBytes(t *testing.T) {
	for _, n := range []uint32{5, 4095, 4096, math.MaxUint32} {
		p := formed(n, sample(256, 12))
		for _, more := range []int{1, 2, 4, 264, 1 << 16} {
			refused(t, append(bytes.Clone(p), make([]byte, more)...), api.ErrTrail)
			refused(t, append(make([]byte, more), p...), api.ErrTrail)
		}
		refused(t, append(bytes.Clone(p), p...), api.ErrTrail)
	}
	refused(t, make([]byte, 265), api.ErrTrail)
	refused(t, sample(265, 13), api.ErrTrail)
}

func TestGetOfAsManyBytes(t *testing.T) {
	refused(t, make([]byte, 264), api.ErrSum)
	refused(t, bytes.Repeat([]byte{255}, 264), api.ErrSum)
	for seed := range uint32(100) {
		refused(t, sample(264, seed), api.ErrSum)
	}
	// Only the bytes within are the page's, not those of the room about it.
	room := append(append(sample(9, 14), formed(6, []byte("abc"))...), sample(9, 15)...)
	checkGet(t, room[9:273], 6, []byte("abc"))
	refused(t, room[8:272], api.ErrSum)
	refused(t, room[10:274], api.ErrSum)
}

func TestGetWithAWrongByte(t *testing.T) {
	for _, n := range numbers {
		p := formed(uint32(n), sample(200, 16))
		for i := range p {
			for x := 1; x < 256; x++ {
				// Of the bytes ahead of the sum each bit alone, and all of them, will do.
				if i < 260 && x&(x-1) != 0 && x != 255 {
					continue
				}
				p[i] ^= byte(x)
				refused(t, p, api.ErrSum)
				p[i] ^= byte(x)
			}
		}
		checkGet(t, p, n, p[:256])
	}
}

func TestGetOfASumLaidOtherwise(t *testing.T) {
	p := formed(77, sample(256, 17))
	s := bytes.Clone(p[260:])
	for _, order := range [][4]int{{3, 2, 1, 0}, {1, 0, 3, 2}, {2, 3, 0, 1}, {1, 2, 3, 0}} {
		for i, j := range order {
			p[260+i] = s[j]
		}
		refused(t, p, api.ErrSum)
	}
	copy(p[260:], lowest(crc32.ChecksumIEEE(p[:256])))
	refused(t, p, api.ErrSum)
	copy(p[260:], lowest(crc32.ChecksumIEEE(p[256:260])))
	refused(t, p, api.ErrSum)
	copy(p[260:], s)
	checkGet(t, p, 77, p[:256])
}

func TestGetOfGreatNumbers(t *testing.T) {
	b := sample(256, 18)
	checkGet(t, formed(4095, b), 4095, b)
	for _, n := range []uint32{
		4096, 4097, 4098, 8191, 8192, 65535, 65536, 65537, 65536 + 4095, 1<<24 - 1, 1 << 24, 1<<24 + 1, 1<<24 + 4095,
		math.MaxInt32, 1 << 31, 1<<31 + 1, 1<<31 + 4095, math.MaxUint32 - 4095, math.MaxUint32 - 1, math.MaxUint32,
	} {
		refused(t, formed(n, b), api.ErrForm)
		refused(t, formed(n, nil), api.ErrForm)
	}
}

func TestGetOfEachByteOfTheNumber(t *testing.T) {
	b := sample(30, 19)
	for i := range 4 {
		for x := range uint32(256) {
			for _, lower := range []uint32{0, 1, 255, 4095} {
				n := lower&^(255<<(8*i)) | x<<(8*i)
				if n < 4096 {
					checkGet(t, formed(n, b), int(n), b)
				} else {
					refused(t, formed(n, b), api.ErrForm)
				}
			}
		}
	}
}

func TestGetOfWhichErrorIsFirst(t *testing.T) {
	p := formed(4096, sample(256, 20))
	refused(t, p, api.ErrForm)
	p[263] ^= 1
	refused(t, p, api.ErrSum)
	refused(t, append(bytes.Clone(p), 0), api.ErrTrail)
	refused(t, p[:263], api.ErrShort)
	refused(t, p[:4], api.ErrShort)
	refused(t, p[:3], api.ErrShort)
}

func TestGetIsNew(t *testing.T) {
	for _, size := range sizes {
		b := append(sample(size, 21), make([]byte, 256-size)...)
		room := append(formed(9, b), sample(40, 22)...)
		was := bytes.Clone(room)
		_, first, e := Get(room[:264])
		_, second, again := Get(room[:264])
		if e != api.OK || again != api.OK || !bytes.Equal(room, was) {
			t.Fatalf("%d bytes: %v, %v: what was handed in: %x, not %x", size, e, again, room, was)
		}
		overwrite(room)
		if !bytes.Equal(first, b) || !bytes.Equal(second, b) {
			t.Fatalf("%d bytes, changed after: %x, %x, not %x", size, first, second, b)
		}
		was = bytes.Clone(room)
		overwrite(first)
		if !bytes.Equal(second, b) || !bytes.Equal(room, was) {
			t.Fatalf("%d bytes, the answer changed: %x, %x", size, second, room)
		}
	}
}

func TestGetThatIsRefusedLeavesItsBytes(t *testing.T) {
	room := append(formed(4096, sample(256, 23)), sample(40, 24)...)
	was := bytes.Clone(room)
	refused(t, room[:0], api.ErrShort)
	refused(t, room[:263], api.ErrShort)
	refused(t, room[:264], api.ErrForm)
	refused(t, room[:265], api.ErrTrail)
	refused(t, room[1:265], api.ErrSum)
	if !bytes.Equal(room, was) {
		t.Errorf("%x, not %x", room, was)
	}
}

// P5.3

func TestMany(t *testing.T) {
	for size := -1000; size < 5000; size++ {
		want := 0
		for want*256 < size {
			want++
		}
		if got := Many(size); got != want {
			t.Fatalf("%d: %d, not %d", size, got, want)
		}
	}
}

func TestManyOfTheEdges(t *testing.T) {
	for size, want := range map[int]int{
		math.MinInt: 0, math.MinInt + 1: 0, math.MinInt + 256: 0, math.MinInt32: 0, -257: 0, -256: 0, -255: 0, -1: 0, 0: 0,
		1: 1, 255: 1, 256: 1, 257: 2, 512: 2, 513: 3, 4096 * 256: 4096, 4096*256 + 1: 4097, math.MaxInt32: 1 << 23,
		math.MaxInt: math.MaxInt/256 + 1, math.MaxInt - 1: math.MaxInt/256 + 1, math.MaxInt - 254: math.MaxInt/256 + 1,
		math.MaxInt - 255: math.MaxInt / 256, math.MaxInt - 256: math.MaxInt / 256,
	} {
		if got := Many(size); got != want {
			t.Errorf("%d: %d, not %d", size, got, want)
		}
	}
}

// turn turns those bits, from the bit at on, that a row has as ones.
func turn(p []byte, at int, row uint32) {
	for j := range 32 {
		if row>>j&1 == 1 {
			p[(at+j)/8] ^= 1 << ((at + j) % 8)
		}
	}
}

func checkRow(t *testing.T, p []byte, at int, row uint32) {
	t.Helper()
	turn(p, at, row)
	if n, b, e := Get(p); e != api.ErrSum || n != 0 || b != nil {
		t.Fatalf("row %x at %d: %d, %x, %v", row, at, n, b, e)
	}
	turn(p, at, row)
}

// rows answers rows of so many bits of which the first and the last one are turned.
func rows(bits int, seed uint32) []uint32 {
	all := uint32(1<<bits - 1)
	ends := uint32(1 | 1<<(bits-1))
	return []uint32{all, ends, seed*2654435761&all | ends, 0x55555555&all | ends}
}

func TestTurnedRows(t *testing.T) {
	// Rows at each bit of the page: across bytes, in the noughts, in the number, across the sum's beginning, within it.
	for _, n := range []int{0, 258, 4095} {
		b := sample(150, 25)
		p := made(t, n, b)
		for bits := 1; bits <= 32; bits++ {
			for _, row := range rows(bits, uint32(bits+n)) {
				for at := range 8*len(p) - bits + 1 {
					checkRow(t, p, at, row)
				}
			}
		}
		checkGet(t, p, n, b)
	}
}

func TestTurnedRowsByPlace(t *testing.T) {
	// Where rows begin that stand where the form's parts meet: 256 bytes, the number from bit 2048 on, the sum from 2080 on.
	p := made(t, 4095, []byte("abc"))
	for _, at := range []int{0, 1, 7, 8, 20, 23, 24, 1000, 2016, 2017, 2047, 2048, 2049, 2052, 2060, 2079, 2080} {
		for bits := 1; bits <= 32; bits++ {
			for seed := range uint32(50) {
				for _, row := range rows(bits, seed) {
					checkRow(t, p, at, row)
				}
			}
		}
	}
	for at := 2081; at < 8*264; at++ {
		for bits := 1; bits <= 8*264-at; bits++ {
			for _, row := range rows(bits, 26) {
				checkRow(t, p, at, row)
			}
		}
	}
	checkGet(t, p, 4095, []byte("abc"))
}

func TestTurnedRowsOfAGreatNumber(t *testing.T) {
	// The sum is looked at ahead of the number, so of a number that may not be it is the sum's error too.
	p := formed(4096, nil)
	for bits := 1; bits <= 32; bits++ {
		for at := range 8*len(p) - bits + 1 {
			checkRow(t, p, at, 1<<bits-1)
		}
	}
	refused(t, p, api.ErrForm)
}

// The chapter's examples.

func TestExamples(t *testing.T) {
	if p := made(t, 3, []byte("a")); p[0] != 'a' || p[1] != 0 || p[256] != 3 {
		t.Errorf("%x", p)
	}
	if Many(256) != 1 || Many(257) != 2 {
		t.Errorf("%d, %d", Many(256), Many(257))
	}
}
