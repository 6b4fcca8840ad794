package pack

import (
	"math"
	"slices"
	"testing"

	"colophon/api"
)

// extremes are places and sizes that no list has.
var extremes = []int{-1, -64, math.MinInt, math.MaxInt, math.MinInt + 1, math.MaxInt/64 + 1}

func made(t *testing.T, width, n int) *Ints {
	t.Helper()
	p, e := New(width, n)
	if e != api.OK || p == nil {
		t.Fatalf("New(%d, %d): %v, %v", width, n, p, e)
	}
	return p
}

// most is the greatest number of a width, reckoned bit by bit.
func most(width int) uint64 {
	var v uint64
	for b := range width {
		v |= 1 << b
	}
	return v
}

// sample answers numbers of a width that are unlike each other in all their bits.
func sample(width, n int, seed uint64) []uint64 {
	l := make([]uint64, n)
	x := seed
	for i := range l {
		x = x*6364136223846793005 + 1442695040888963407
		l[i] = (x ^ x>>29) & most(width)
	}
	return l
}

// laid answers the words that the chapter's sentence on bits asks for.
func laid(width int, numbers []uint64) []uint64 {
	words := make([]uint64, (width*len(numbers)+63)/64)
	for i, v := range numbers {
		for j := range width {
			b := i*width + j
			words[b/64] |= v >> j & 1 << (b % 64)
		}
	}
	return words
}

func checkNumbers(t *testing.T, p *Ints, want []uint64) {
	t.Helper()
	if p.Len() != len(want) {
		t.Fatalf("Len: %d, not %d", p.Len(), len(want))
	}
	for i, v := range want {
		if p.Get(i) != v {
			t.Fatalf("width %d: Get(%d): %d, not %d", p.Width(), i, p.Get(i), v)
		}
	}
	if words := laid(p.Width(), want); !slices.Equal(p.Words(), words) {
		t.Fatalf("width %d: Words: %x, not %x", p.Width(), p.Words(), words)
	}
}

// P1.1

func TestNewHasNoughts(t *testing.T) {
	for width := 1; width <= 64; width++ {
		for _, n := range []int{0, 1, 2, 63, 64, 65, 130} {
			p := made(t, width, n)
			if p.Width() != width {
				t.Errorf("New(%d, %d): Width: %d", width, n, p.Width())
			}
			checkNumbers(t, p, make([]uint64, n))
		}
	}
}

func TestNewOfMostNumbers(t *testing.T) {
	for _, width := range []int{1, 13, 64} {
		p := made(t, width, api.MaxInts)
		if p.Len() != api.MaxInts || len(p.Words()) != width*api.MaxInts/64 {
			t.Errorf("width %d: %d numbers, %d words", width, p.Len(), len(p.Words()))
		}
		last := api.MaxInts - 1
		if !p.Set(last, most(width)) || p.Get(last) != most(width) || p.Get(last-1) != 0 {
			t.Errorf("width %d: the last number: %d", width, p.Get(last))
		}
		if p.Set(api.MaxInts, 0) {
			t.Errorf("width %d: Set behind the last number", width)
		}
	}
}

func TestArgumentsThatMayNotBe(t *testing.T) {
	check := func(width, n int) {
		t.Helper()
		if p, e := New(width, n); p != nil || e != api.ErrArg {
			t.Errorf("New(%d, %d): %v, %v", width, n, p, e)
		}
		// Words that fit nothing, too: ErrArg is named ahead of ErrForm.
		for _, words := range [][]uint64{nil, {0}, {1, 2, 3}} {
			if p, e := From(width, n, words); p != nil || e != api.ErrArg {
				t.Errorf("From(%d, %d, %v): %v, %v", width, n, words, p, e)
			}
		}
	}
	for _, width := range append([]int{0, 65, 66, 128}, extremes...) {
		for _, n := range []int{-1, 0, 1, 64, api.MaxInts, api.MaxInts + 1} {
			check(width, n)
		}
	}
	for _, n := range append([]int{api.MaxInts + 1, 2 * api.MaxInts}, extremes...) {
		for _, width := range []int{1, 7, 64} {
			check(width, n)
		}
	}
}

func TestFromWords(t *testing.T) {
	for width := 1; width <= 64; width++ {
		for _, n := range []int{0, 1, 2, 5, 63, 64, 65, 128} {
			numbers := sample(width, n, uint64(width))
			p, e := From(width, n, laid(width, numbers))
			if e != api.OK {
				t.Fatalf("From(%d, %d): %v", width, n, e)
			}
			if p.Width() != width {
				t.Errorf("From(%d, %d): Width: %d", width, n, p.Width())
			}
			checkNumbers(t, p, numbers)
		}
	}
}

func TestFromOfMostNumbers(t *testing.T) {
	words := make([]uint64, api.MaxInts/64)
	words[len(words)-1] = 1 << 63
	p, e := From(1, api.MaxInts, words)
	if e != api.OK || p.Get(api.MaxInts-1) != 1 || p.Get(api.MaxInts-2) != 0 {
		t.Errorf("%v", e)
	}
}

func TestFromTooFewOrTooManyWords(t *testing.T) {
	for width := 1; width <= 64; width++ {
		for _, n := range []int{0, 1, 63, 64, 65, 128} {
			need := (width*n + 63) / 64
			for _, have := range []int{0, need - 1, need + 1, need + 2, 2*need + 1} {
				if have < 0 || have == need {
					continue
				}
				if p, e := From(width, n, make([]uint64, have)); p != nil || e != api.ErrForm {
					t.Errorf("From(%d, %d, %d words): %v, %v", width, n, have, p, e)
				}
			}
		}
	}
	if p, e := From(64, api.MaxInts, nil); p != nil || e != api.ErrForm {
		t.Errorf("MaxInts numbers of no words: %v, %v", p, e)
	}
}

func TestFromABitBehind(t *testing.T) {
	for width := 1; width <= 64; width++ {
		for n := range 66 {
			words := laid(width, sample(width, n, 9))
			for b := width * n; b < 64*len(words); b++ {
				words[b/64] ^= 1 << (b % 64)
				if p, e := From(width, n, words); p != nil || e != api.ErrForm {
					t.Fatalf("From(%d, %d), bit %d: %v, %v", width, n, b, p, e)
				}
				words[b/64] ^= 1 << (b % 64)
			}
			if _, e := From(width, n, words); e != api.OK {
				t.Fatalf("From(%d, %d): %v", width, n, e)
			}
		}
	}
}

func TestFromKeepsNothing(t *testing.T) {
	room := []uint64{7, 8, 9}
	words := room[:2]
	p, e := From(64, 2, words)
	if e != api.OK {
		t.Fatal(e)
	}
	p.Set(0, 70)
	_ = append(p.Words(), 90)
	if !slices.Equal(room, []uint64{7, 8, 9}) {
		t.Errorf("what was handed in: %v", room)
	}
	words[1] = 80
	if p.Get(1) != 8 {
		t.Errorf("Get(1): %d", p.Get(1))
	}
}

// P1.2

func TestSetAndGet(t *testing.T) {
	for width := 1; width <= 64; width++ {
		n := 131
		p := made(t, width, n)
		want := make([]uint64, n)
		// Two rounds, so that numbers are laid over others and not over noughts alone.
		for round := range 2 {
			for i, v := range sample(width, n, uint64(100*width+round)) {
				at := i * 37 % n
				if !p.Set(at, v) {
					t.Fatalf("width %d: Set(%d, %d)", width, at, v)
				}
				want[at] = v
				checkNumbers(t, p, want)
			}
		}
	}
}

func TestSetChangesNoOtherNumber(t *testing.T) {
	for width := 1; width <= 64; width++ {
		n := 67
		for _, pair := range [][2]uint64{{0, most(width)}, {most(width), 0}} {
			want := slices.Repeat([]uint64{pair[0]}, n)
			p, e := From(width, n, laid(width, want))
			if e != api.OK {
				t.Fatal(e)
			}
			for i := range n {
				if !p.Set(i, pair[1]) {
					t.Fatalf("width %d: Set(%d, %d)", width, i, pair[1])
				}
				want[i] = pair[1]
				checkNumbers(t, p, want)
				p.Set(i, pair[0])
				want[i] = pair[0]
				checkNumbers(t, p, want)
			}
		}
	}
}

func TestNumberInTwoWords(t *testing.T) {
	p := made(t, 13, 20)
	// Number 4 has the bits 52 to 64, one of them in the second word.
	if !p.Set(4, 1<<12|1) {
		t.Fatal("Set")
	}
	if !slices.Equal(p.Words(), []uint64{1 << 52, 1, 0, 0, 0}) || p.Get(4) != 1<<12|1 {
		t.Errorf("%x, %d", p.Words(), p.Get(4))
	}
	if !p.Set(4, 1<<12-2) {
		t.Fatal("Set")
	}
	if !slices.Equal(p.Words(), []uint64{(1<<12 - 2) << 52, 0, 0, 0, 0}) || p.Get(4) != 1<<12-2 {
		t.Errorf("%x, %d", p.Words(), p.Get(4))
	}
}

func TestPlacesOutOfTheList(t *testing.T) {
	for _, width := range []int{1, 13, 63, 64} {
		for _, n := range []int{0, 1, 3, 64} {
			want := slices.Repeat([]uint64{most(width)}, n)
			p, e := From(width, n, laid(width, want))
			if e != api.OK {
				t.Fatal(e)
			}
			for _, i := range append([]int{n, n + 1, 64 * n, n + 64, api.MaxInts}, extremes...) {
				if i >= 0 && i < n {
					continue
				}
				if p.Get(i) != 0 {
					t.Errorf("width %d, %d numbers: Get(%d): %d", width, n, i, p.Get(i))
				}
				if p.Set(i, 0) || p.Set(i, 1) {
					t.Errorf("width %d, %d numbers: Set(%d) is true", width, n, i)
				}
				checkNumbers(t, p, want)
			}
		}
	}
}

func TestSetOfNumbersTooGreat(t *testing.T) {
	for width := 1; width < 64; width++ {
		n := 66
		want := sample(width, n, 5)
		p, e := From(width, n, laid(width, want))
		if e != api.OK {
			t.Fatal(e)
		}
		for i := range n {
			for _, v := range []uint64{1 << width, 1<<width + 1, 1 << 63, math.MaxUint64} {
				if p.Set(i, v) {
					t.Errorf("width %d: Set(%d, %d) is true", width, i, v)
				}
			}
		}
		checkNumbers(t, p, want)
	}
	p := made(t, 64, 2)
	if !p.Set(1, math.MaxUint64) || p.Get(1) != math.MaxUint64 || p.Get(0) != 0 {
		t.Errorf("the greatest number of 64 bits: %x", p.Words())
	}
}

func TestWordsAreNew(t *testing.T) {
	p := made(t, 3, 30)
	p.Set(1, 5)
	first, second := p.Words(), p.Words()
	for i := range first {
		first[i] = math.MaxUint64
	}
	first = first[:cap(first)]
	for i := range first {
		first[i] = math.MaxUint64
	}
	if !slices.Equal(second, []uint64{40, 0}) || !slices.Equal(p.Words(), second) {
		t.Errorf("%x, %x", second, p.Words())
	}
	p.Set(1, 0)
	if second[0] != 40 {
		t.Errorf("Words change with the list: %x", second)
	}
}

func TestListsShareNothing(t *testing.T) {
	p, q := made(t, 8, 8), made(t, 8, 8)
	p.Set(3, 200)
	if q.Get(3) != 0 {
		t.Errorf("%d", q.Get(3))
	}
	words := p.Words()
	r, _ := From(8, 8, words)
	s, _ := From(8, 8, words)
	r.Set(3, 1)
	if s.Get(3) != 200 || p.Get(3) != 200 {
		t.Errorf("%d, %d", s.Get(3), p.Get(3))
	}
}

func TestNilList(t *testing.T) {
	var p *Ints
	for _, i := range append([]int{0, 1}, extremes...) {
		if p.Get(i) != 0 || p.Set(i, 0) || p.Set(i, 1) {
			t.Errorf("place %d", i)
		}
	}
	if p.Len() != 0 || p.Width() != 0 || len(p.Words()) != 0 {
		t.Errorf("%d, %d, %v", p.Len(), p.Width(), p.Words())
	}
}

// P1.3

func TestWidth(t *testing.T) {
	if Width(0) != 1 || Width(1) != 1 || Width(8) != 4 || Width(math.MaxUint64) != 64 {
		t.Errorf("%d %d %d %d", Width(0), Width(1), Width(8), Width(math.MaxUint64))
	}
	for width := 1; width <= 64; width++ {
		if got := Width(most(width)); got != width {
			t.Errorf("Width(%d): %d", most(width), got)
		}
		if got := Width(1 << (width - 1)); got != width {
			t.Errorf("Width(%d): %d", uint64(1)<<(width-1), got)
		}
		if got := Width(most(width-1) + 1); got != width {
			t.Errorf("Width(%d): %d", most(width-1)+1, got)
		}
	}
}

// The chapter's examples.

func TestExamples(t *testing.T) {
	p := made(t, 3, 3)
	if !p.Set(1, 5) || !slices.Equal(p.Words(), []uint64{40}) {
		t.Errorf("Words: %v", p.Words())
	}
	if p.Set(1, 8) || p.Get(1) != 5 {
		t.Errorf("Set(1, 8): %d", p.Get(1))
	}
}
