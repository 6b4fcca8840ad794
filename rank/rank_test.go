package rank

import (
	"math"
	"slices"
	"strconv"
	"testing"

	"colophon/api"
	"colophon/pack"
)

// extremes are places and numbers that no list has.
var extremes = []int{-1, -2, -64, math.MinInt, math.MinInt + 1, math.MaxInt, math.MaxInt - 1}

// lengths end within a word, at a word's end, and on both sides of where some words end.
var lengths = []int{1, 2, 3, 31, 63, 64, 65, 127, 128, 129, 191, 192, 256, 511, 512, 513, 576, 1000, 1023, 1024, 1025, 1600}

// packed answers a packed list of these bits.
func packed(t *testing.T, list []bool) *pack.Ints {
	t.Helper()
	p, e := pack.New(1, len(list))
	if e != api.OK {
		t.Fatal(e)
	}
	for i, one := range list {
		if one && !p.Set(i, 1) {
			t.Fatalf("Set(%d)", i)
		}
	}
	return p
}

func made(t *testing.T, list []bool) *Vec {
	t.Helper()
	return of(t, packed(t, list))
}

func of(t *testing.T, p *pack.Ints) *Vec {
	t.Helper()
	v, e := New(p)
	if e != api.OK || v == nil {
		t.Fatalf("New: %v, %v", v, e)
	}
	return v
}

// pieces answers lists of n bits of many kinds, by their names.
func pieces(n int) map[string][]bool {
	kinds := map[string]func(i int) bool{
		"noughts":            func(i int) bool { return false },
		"ones":               func(i int) bool { return true },
		"first one":          func(i int) bool { return i == 0 },
		"last one":           func(i int) bool { return i == n-1 },
		"first nought":       func(i int) bool { return i != 0 },
		"last nought":        func(i int) bool { return i != n-1 },
		"by turns":           func(i int) bool { return i%2 == 1 },
		"every third":        func(i int) bool { return i%3 == 0 },
		"words by turns":     func(i int) bool { return i/64%2 == 1 },
		"eight words' turns": func(i int) bool { return i/512%2 == 1 },
		"ends of words":      func(i int) bool { return i%64 == 0 || i%64 == 63 },
		"one in the middle":  func(i int) bool { return i == n/2 },
		"mixed":              func(i int) bool { return scattered(i)&1 == 1 },
		"few":                func(i int) bool { return scattered(i)%97 == 0 },
		"all but few":        func(i int) bool { return scattered(i)%89 != 0 },
	}
	lists := map[string][]bool{}
	for name, is := range kinds {
		l := make([]bool, n)
		for i := range l {
			l[i] = is(i)
		}
		lists[name+" of "+strconv.Itoa(n)] = l
	}
	return lists
}

// scattered answers a number of i whose bits look like no rule.
func scattered(i int) uint64 {
	x := uint64(i+1) * 0x9e3779b97f4a7c15
	x = (x ^ x>>30) * 0xbf58476d1ce4e5b9
	return x ^ x>>31
}

// check holds all that a list answers against bits that are looked at one by one.
func check(t *testing.T, name string, v *Vec, list []bool) {
	t.Helper()
	n := len(list)
	var ones, noughts []int // the places, so that their lengths are the ranks
	for i, one := range list {
		if v.At(i) != one || v.Rank(i) != len(ones) || v.Zeros(i) != len(noughts) {
			t.Fatalf("%s, place %d: %v %d %d, not %v %d %d", name, i, v.At(i), v.Rank(i), v.Zeros(i), one, len(ones), len(noughts))
		}
		if one {
			ones = append(ones, i)
		} else {
			noughts = append(noughts, i)
		}
	}
	if v.Len() != n || v.Ones() != len(ones) {
		t.Fatalf("%s: Len %d, Ones %d, not %d, %d", name, v.Len(), v.Ones(), n, len(ones))
	}
	checkOutside(t, name, v, len(ones), len(noughts))
	checkPlaces(t, name+": Select", v.Select, ones)
	checkPlaces(t, name+": SelectZero", v.SelectZero, noughts)
}

// checkOutside looks at places that the list hasn't, and at the one behind its last bit.
func checkOutside(t *testing.T, name string, v *Vec, ones, noughts int) {
	t.Helper()
	n := ones + noughts
	for _, i := range append([]int{n, n + 1, n + 63, n + 64, n + 512, api.MaxInts + 1}, extremes...) {
		if v.At(i) {
			t.Fatalf("%s: At(%d) is true", name, i)
		}
		wantOnes, wantNoughts := ones, noughts
		if i < 0 {
			wantOnes, wantNoughts = 0, 0
		}
		if v.Rank(i) != wantOnes || v.Zeros(i) != wantNoughts {
			t.Fatalf("%s, place %d: %d, %d, not %d, %d", name, i, v.Rank(i), v.Zeros(i), wantOnes, wantNoughts)
		}
	}
}

func checkPlaces(t *testing.T, name string, find func(int) int, want []int) {
	t.Helper()
	for k, i := range want {
		if find(k) != i {
			t.Fatalf("%s(%d): %d, not %d", name, k, find(k), i)
		}
	}
	m := len(want)
	for _, k := range append([]int{m, m + 1, m + 64, api.MaxInts}, extremes...) {
		if find(k) != -1 {
			t.Fatalf("%s(%d) of %d: %d, not -1", name, k, m, find(k))
		}
	}
}

// P2.1

func TestNewOfNil(t *testing.T) {
	if v, e := New(nil); v != nil || e != api.ErrNil {
		t.Errorf("%v, %v", v, e)
	}
}

func TestNewOfOtherWidths(t *testing.T) {
	for width := 2; width <= 64; width++ {
		for _, n := range []int{0, 1, 64, 65} {
			p, e := pack.New(width, n)
			if e != api.OK {
				t.Fatal(e)
			}
			if v, e := New(p); v != nil || e != api.ErrArg {
				t.Errorf("width %d, %d numbers: %v, %v", width, n, v, e)
			}
		}
	}
}

func TestNewOfNoBits(t *testing.T) {
	check(t, "no bits", made(t, nil), nil)
	p, e := pack.From(1, 0, nil)
	if e != api.OK {
		t.Fatal(e)
	}
	check(t, "no words", of(t, p), nil)
}

func TestNewHasTheBitsOfThen(t *testing.T) {
	for _, n := range lengths {
		for name, list := range pieces(n) {
			p := packed(t, list)
			v := of(t, p)
			turned := make([]bool, n)
			for i, one := range list {
				turned[i] = !one
				if one {
					p.Set(i, 0)
				} else {
					p.Set(i, 1)
				}
			}
			check(t, name, v, list)
			check(t, name+", turned", of(t, p), turned)
			check(t, name+", another list since", v, list)
		}
	}
}

func TestNewChangesNothing(t *testing.T) {
	for _, n := range lengths {
		for name, list := range pieces(n) {
			p := packed(t, list)
			words := p.Words()
			check(t, name, of(t, p), list)
			if p.Width() != 1 || p.Len() != n || !slices.Equal(p.Words(), words) {
				t.Errorf("%s: what was handed in has changed", name)
			}
		}
	}
}

// P2.2

func TestBits(t *testing.T) {
	for _, n := range lengths {
		for name, list := range pieces(n) {
			check(t, name, made(t, list), list)
		}
	}
}

func TestEveryListOfFewBits(t *testing.T) {
	for n := range 9 {
		for x := range 1 << n {
			list := make([]bool, n)
			for i := range list {
				list[i] = x>>i&1 == 1
			}
			check(t, strconv.Itoa(x)+" in "+strconv.Itoa(n), made(t, list), list)
		}
	}
}

func TestNoughtsAlone(t *testing.T) {
	for _, n := range lengths {
		v := made(t, make([]bool, n))
		if v.Ones() != 0 || v.Rank(n) != 0 || v.Zeros(n) != n || v.Select(0) != -1 {
			t.Errorf("%d: %d %d %d %d", n, v.Ones(), v.Rank(n), v.Zeros(n), v.Select(0))
		}
		if v.SelectZero(0) != 0 || v.SelectZero(n-1) != n-1 || v.SelectZero(n) != -1 {
			t.Errorf("%d: %d %d %d", n, v.SelectZero(0), v.SelectZero(n-1), v.SelectZero(n))
		}
	}
}

func TestOnesAlone(t *testing.T) {
	for _, n := range lengths {
		v := made(t, slices.Repeat([]bool{true}, n))
		if v.Ones() != n || v.Rank(n) != n || v.Zeros(n) != 0 || v.SelectZero(0) != -1 {
			t.Errorf("%d: %d %d %d %d", n, v.Ones(), v.Rank(n), v.Zeros(n), v.SelectZero(0))
		}
		if v.Select(0) != 0 || v.Select(n-1) != n-1 || v.Select(n) != -1 {
			t.Errorf("%d: %d %d %d", n, v.Select(0), v.Select(n-1), v.Select(n))
		}
	}
}

func TestMostBits(t *testing.T) {
	p, e := pack.New(1, api.MaxInts)
	if e != api.OK {
		t.Fatal(e)
	}
	last := api.MaxInts - 1
	for i := 5; i < api.MaxInts; i += 1000 {
		p.Set(i, 1)
	}
	p.Set(last, 1)
	v := of(t, p)
	ones := (api.MaxInts-6)/1000 + 2
	if v.Len() != api.MaxInts || v.Ones() != ones || !v.At(last) || v.At(last-1) || v.At(api.MaxInts) {
		t.Fatalf("%d %d", v.Len(), v.Ones())
	}
	for k := range ones - 1 {
		i := 5 + 1000*k
		if v.Rank(i) != k || v.Rank(i+1) != k+1 || v.Zeros(i) != i-k || v.Select(k) != i {
			t.Fatalf("one of number %d: %d %d %d %d", k, v.Rank(i), v.Rank(i+1), v.Zeros(i), v.Select(k))
		}
		if v.SelectZero(i-k) != i+1 || v.SelectZero(i-k-1) != i-1 {
			t.Fatalf("noughts beside %d: %d %d", i, v.SelectZero(i-k-1), v.SelectZero(i-k))
		}
	}
	if v.Rank(last) != ones-1 || v.Rank(api.MaxInts) != ones || v.Select(ones-1) != last || v.Select(ones) != -1 {
		t.Errorf("the last one: %d %d %d", v.Rank(last), v.Rank(api.MaxInts), v.Select(ones-1))
	}
	if noughts := api.MaxInts - ones; v.Zeros(math.MaxInt) != noughts || v.SelectZero(noughts-1) != last-1 || v.SelectZero(noughts) != -1 {
		t.Errorf("the last nought: %d %d", v.Zeros(math.MaxInt), v.SelectZero(noughts-1))
	}
}

func TestNilVec(t *testing.T) {
	var v *Vec
	if v.Len() != 0 || v.Ones() != 0 {
		t.Errorf("%d, %d", v.Len(), v.Ones())
	}
	for _, i := range append([]int{0, 1, 64, api.MaxInts}, extremes...) {
		if v.At(i) || v.Rank(i) != 0 || v.Zeros(i) != 0 || v.Select(i) != -1 || v.SelectZero(i) != -1 {
			t.Errorf("%d: %v %d %d %d %d", i, v.At(i), v.Rank(i), v.Zeros(i), v.Select(i), v.SelectZero(i))
		}
	}
}

// The chapter's examples.

func TestExamples(t *testing.T) {
	v := made(t, []bool{false, true, true, false, true})
	if v.Rank(3) != 2 || v.Zeros(3) != 1 || v.Select(2) != 4 || v.SelectZero(1) != 3 || v.Select(3) != -1 {
		t.Errorf("%d %d %d %d %d", v.Rank(3), v.Zeros(3), v.Select(2), v.SelectZero(1), v.Select(3))
	}
}
