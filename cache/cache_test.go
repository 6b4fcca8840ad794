package cache

import (
	"bytes"
	"math"
	"slices"
	"strconv"
	"strings"
	"testing"

	"colophon/api"
	"colophon/image"
)

// numbered answers what so many pages have, each its number on and on, which a rising one is laid over.
func numbered(pages int) []byte {
	l := make([]byte, pages*api.PageSize)
	for i := range l {
		page, at := i/api.PageSize, i%api.PageSize
		l[i] = byte(page>>(at%2*8)) ^ byte(at/2)
	}
	return l
}

// pictured answers an image of so many pages, no two of them alike.
func pictured(t *testing.T, pages int) *image.Image {
	t.Helper()
	b, _ := image.Build(numbered(pages - 1))
	m, e := image.Open(b)
	if e != api.OK || m.Pages() != pages {
		t.Fatalf("an image of %d pages: %v", pages, e)
	}
	return m
}

func made(t *testing.T, m *image.Image, frames int) *Cache {
	t.Helper()
	c, e := New(m, frames)
	if e != api.OK || c == nil {
		t.Fatalf("New of %d frames: %v, %v", frames, c, e)
	}
	return c
}

// cached answers an image of so many pages, and a cache of it.
func cached(t *testing.T, pages, frames int) (*image.Image, *Cache) {
	t.Helper()
	m := pictured(t, pages)
	return m, made(t, m, frames)
}

// extremes are numbers of no page and of no frames.
var extremes = []int{-1, -2, -256, -4096, 4097, 8192, 65536, 1<<32 + 1, math.MaxInt32, math.MinInt32, math.MaxInt, math.MinInt, math.MinInt + 1}

// overwrite turns all bits of a list, those of its spare room too.
func overwrite(b []byte) {
	b = b[:cap(b)]
	for i := range b {
		b[i] ^= 255
	}
}

// checkHold holds a page that there is, and tells of bytes that aren't the image's.
func checkHold(t *testing.T, m *image.Image, c *Cache, n int, hit bool) {
	t.Helper()
	want, _ := m.Page(n)
	if b, h, e := c.Hold(n); e != api.OK || h != hit || !bytes.Equal(b, want) {
		t.Fatalf("Hold(%d): %x, %v, %v, not %v", n, b, h, e, hit)
	}
}

func notHeld(t *testing.T, c *Cache, n int, want api.Errno) {
	t.Helper()
	if b, h, e := c.Hold(n); e != want || h || b != nil {
		t.Fatalf("Hold(%d): %x, %v, %v, not %v", n, b, h, e, want)
	}
}

func checkDrop(t *testing.T, c *Cache, n int, want bool) {
	t.Helper()
	if c.Drop(n) != want {
		t.Fatalf("Drop(%d): %v", n, !want)
	}
}

// checkHas asks for each page of the image, and for some that it hasn't.
func checkHas(t *testing.T, m *image.Image, c *Cache, pages ...int) {
	t.Helper()
	for n := range m.Pages() {
		if got := c.Has(n); got != slices.Contains(pages, n) {
			t.Fatalf("Has(%d): %v, of %v", n, got, pages)
		}
	}
	for _, n := range append([]int{m.Pages(), m.Pages() + 1}, extremes...) {
		if (n < 0 || n >= m.Pages()) && c.Has(n) {
			t.Fatalf("Has(%d)", n)
		}
	}
}

func checkStats(t *testing.T, c *Cache, hits, misses, held, pinned int) {
	t.Helper()
	if got, want := c.Stats(), (api.Stats{Hits: hits, Misses: misses, Held: held, Pinned: pinned}); got != want {
		t.Fatalf("%v, not %v", got, want)
	}
}

// play makes calls: "+3" holds page 3 by a miss, "=3" by a hit, "-3" drops it; "<3" holds it by a miss and drops it, ">3" by a hit; "!3" is refused as all frames are held, "?3" as there is no such page; "~3" drops what isn't held.
func play(t *testing.T, m *image.Image, c *Cache, script string) {
	t.Helper()
	for _, word := range strings.Fields(script) {
		n, _ := strconv.Atoi(word[1:])
		switch word[0] {
		case '+', '=':
			checkHold(t, m, c, n, word[0] == '=')
		case '<', '>':
			checkHold(t, m, c, n, word[0] == '>')
			checkDrop(t, c, n, true)
		case '-', '~':
			checkDrop(t, c, n, word[0] == '-')
		case '!':
			notHeld(t, c, n, api.ErrPin)
		case '?':
			notHeld(t, c, n, api.ErrNone)
		default:
			t.Fatalf("no such call: %s", word)
		}
	}
}

// scene is calls, and which pages are there behind them.
type scene struct {
	script string
	pages  []int
}

// stage plays scenes one behind the other.
func stage(t *testing.T, frames int, scenes ...scene) {
	t.Helper()
	m, c := cached(t, 12, frames)
	for _, s := range scenes {
		play(t, m, c, s.script)
		checkHas(t, m, c, s.pages...)
	}
}

// slot is a frame as the chapter has it, page -1 if it is empty.
type slot struct {
	page, held int
	marked     bool
}

// model is a cache as the chapter has it.
type model struct {
	pages  int
	slots  []slot
	hand   int
	counts api.Stats
}

func modelOf(pages, frames int) *model {
	return &model{pages: pages, slots: slices.Repeat([]slot{{page: -1}}, frames)}
}

func (o *model) at(n int) int {
	for i, s := range o.slots {
		if n >= 0 && s.page == n {
			return i
		}
	}
	return -1
}

func (o *model) hold(n int) (bool, api.Errno) {
	if n < 0 || n >= o.pages {
		return false, api.ErrNone
	}
	if i := o.at(n); i >= 0 {
		o.slots[i] = slot{n, o.slots[i].held + 1, true}
		o.counts.Hits++
		return true, api.OK
	}
	for i, s := range o.slots {
		if s.page < 0 {
			o.take(i, n)
			return false, api.OK
		}
	}
	was, hand := slices.Clone(o.slots), o.hand
	for step := range 2 * len(o.slots) {
		i := (hand + step) % len(o.slots)
		if o.slots[i].held > 0 {
			continue
		}
		if o.slots[i].marked {
			o.slots[i].marked = false
			continue
		}
		o.take(i, n)
		o.hand = (i + 1) % len(o.slots)
		return false, api.OK
	}
	o.slots = was
	return false, api.ErrPin
}

func (o *model) take(i, n int) {
	o.slots[i] = slot{n, 1, true}
	o.counts.Misses++
}

func (o *model) drop(n int) bool {
	i := o.at(n)
	if i < 0 || o.slots[i].held == 0 {
		return false
	}
	o.slots[i].held--
	return true
}

func (o *model) stats() api.Stats {
	s := o.counts
	for _, l := range o.slots {
		if l.page >= 0 {
			s.Held++
		}
		if l.held > 0 {
			s.Pinned++
		}
	}
	return s
}

// holdBoth holds a page in both, and tells of what is otherwise.
func holdBoth(t *testing.T, m *image.Image, c *Cache, o *model, n int) api.Errno {
	t.Helper()
	hit, e := o.hold(n)
	if e == api.OK {
		checkHold(t, m, c, n, hit)
	} else {
		notHeld(t, c, n, e)
	}
	return e
}

// checkModel holds who has which page, and the stats, against the model's.
func checkModel(t *testing.T, c *Cache, o *model) {
	t.Helper()
	for n := -1; n <= o.pages; n++ {
		if got := c.Has(n); got != (o.at(n) >= 0) {
			t.Fatalf("Has(%d): %v, of %v", n, got, o.slots)
		}
	}
	if got := c.Stats(); got != o.stats() {
		t.Fatalf("%v, not %v", got, o.stats())
	}
}

// turns goes over calls that look like no rule: whether it is to hold, and which page. Holding and dropping prevail by turns.
func turns(steps, pages int, seed uint32, call func(hold bool, n int)) {
	x := seed
	next := func(below int) int {
		x = x*1664525 + 1013904223
		return int(x>>8) % below
	}
	for step := range steps {
		bias := 2 + step/40%7
		call(next(10) < bias, next(pages+2)-1)
	}
}

// sizes are of how many pages and of how many frames caches are in long turns.
var sizes = []struct{ pages, frames int }{
	{1, 1}, {1, 3}, {2, 1}, {3, 1}, {9, 1}, {3, 2}, {4, 2}, {9, 2}, {4, 3}, {7, 3}, {20, 3}, {5, 4}, {9, 5}, {8, 8}, {9, 8}, {40, 8}, {20, 19}, {20, 40},
}

// P7.1

func TestNew(t *testing.T) {
	for _, pages := range []int{1, 2, 9, 4096} {
		m := pictured(t, pages)
		for _, frames := range []int{1, 2, 3, 255, 256, 257, 4095, 4096} {
			c := made(t, m, frames)
			checkHas(t, m, c)
			checkStats(t, c, 0, 0, 0, 0)
			checkDrop(t, c, 0, false)
		}
	}
}

func TestNewOfWrongFrames(t *testing.T) {
	m := pictured(t, 9)
	for _, frames := range append([]int{0, 4098, 4096 * 2, 65537}, extremes...) {
		if c, e := New(m, frames); e != api.ErrArg || c != nil {
			t.Errorf("New of %d frames: %v, %v", frames, c, e)
		}
	}
}

func TestNewOfNilImage(t *testing.T) {
	for _, frames := range append([]int{0, 1, 2, 4095, 4096}, extremes...) {
		if c, e := New(nil, frames); e != api.ErrNil || c != nil {
			t.Errorf("New of nil, %d frames: %v, %v", frames, c, e)
		}
	}
}

func TestNewHasSoManyFrames(t *testing.T) {
	for _, frames := range []int{1, 2, 3, 10, 11} {
		m, c := cached(t, 12, frames)
		for n := range frames {
			checkHold(t, m, c, n, false)
		}
		notHeld(t, c, frames, api.ErrPin)
		checkStats(t, c, 0, frames, frames, frames)
	}
}

func TestNewOfMoreFramesThanPages(t *testing.T) {
	m, c := cached(t, 3, 5)
	play(t, m, c, "+2 <0 +1 ?3 =1 >0 =2 >0 ?-1")
	checkHas(t, m, c, 0, 1, 2)
	checkStats(t, c, 4, 3, 3, 2)
}

func TestNewOfAllFrames(t *testing.T) {
	m, c := cached(t, 4096, 4096)
	for n := range 4096 {
		checkHold(t, m, c, n, false)
	}
	notHeld(t, c, 4096, api.ErrNone)
	for n := range 4096 {
		checkHold(t, m, c, n, true)
		checkDrop(t, c, n, true)
	}
	checkStats(t, c, 4096, 4096, 4096, 4096)
}

func TestNewOfAllFramesButOne(t *testing.T) {
	m, c := cached(t, 4096, 4095)
	for n := range 4095 {
		checkHold(t, m, c, n, false)
	}
	notHeld(t, c, 4095, api.ErrPin)
	play(t, m, c, "-4094 +4095 !4094")
	checkStats(t, c, 0, 4096, 4095, 4095)
}

func TestCachesOfOneImage(t *testing.T) {
	m, c := cached(t, 12, 2)
	other := made(t, m, 3)
	play(t, m, c, "+1 <2")
	checkHas(t, m, other)
	play(t, m, other, "~1 +3 +1 +4 !2")
	checkHas(t, m, c, 1, 2)
	play(t, m, c, "~3 >2 +3 !2")
	checkHas(t, m, other, 1, 3, 4)
	checkStats(t, c, 1, 3, 2, 2)
	checkStats(t, other, 0, 3, 3, 3)
}

// P7.2

func TestHoldOfEachPage(t *testing.T) {
	for _, frames := range []int{1, 2, 5, 9, 10} {
		m, c := cached(t, 9, frames)
		for n := range 9 {
			checkHold(t, m, c, n, false)
			checkHold(t, m, c, n, true)
			checkDrop(t, c, n, true)
			checkDrop(t, c, n, true)
		}
		checkStats(t, c, 9, 9, min(frames, 9), 0)
	}
}

func TestHoldOfNoPage(t *testing.T) {
	m, c := cached(t, 9, 2)
	none := slices.DeleteFunc(append([]int{9, 10, 255, 256, 4095, 4096}, extremes...), func(n int) bool { return 0 <= n && n < 9 })
	// Of an empty cache, with a page, full, full of pages of which none, one, and all are held: then too it is ErrNone.
	for _, script := range []string{"", "<0", "<1", "=1", "=1", "+2"} {
		play(t, m, c, script)
		was := c.Stats()
		for _, n := range none {
			notHeld(t, c, n, api.ErrNone)
		}
		if got := c.Stats(); got != was {
			t.Fatalf("%v, not %v", got, was)
		}
	}
	notHeld(t, c, 3, api.ErrPin)
	notHeld(t, c, 9, api.ErrNone)
}

func TestHoldOfTheHeadAlone(t *testing.T) {
	m, c := cached(t, 1, 1)
	play(t, m, c, "?1 ?-1 ~0 +0 ?1 =0 -0 -0 ~0 >0 ?1")
	checkHas(t, m, c, 0)
	checkStats(t, c, 2, 1, 1, 0)
}

func TestHits(t *testing.T) {
	m, c := cached(t, 12, 3)
	play(t, m, c, "+4")
	checkStats(t, c, 0, 1, 1, 1)
	play(t, m, c, "=4") // while it is held
	checkStats(t, c, 1, 1, 1, 1)
	play(t, m, c, "-4 -4 =4") // and while it isn't
	checkStats(t, c, 2, 1, 1, 1)
	play(t, m, c, "-4 +5 +6 >4 >5 >6")
	checkStats(t, c, 5, 3, 3, 2)
}

func TestHitsWhileAllAreHeld(t *testing.T) {
	m, c := cached(t, 12, 2)
	play(t, m, c, "+1 +2 =1 =2 !3 =1 =2 !3 -1 -1 !3 -1 +3 !1 =3 =2")
	checkHas(t, m, c, 2, 3)
	checkStats(t, c, 6, 3, 2, 2)
}

func TestEmptyFramesInTheirOrder(t *testing.T) {
	// All of them are marked, and all marks go: the hand then takes the frames as they stand.
	for _, order := range [][]int{{1, 2, 3, 4}, {4, 3, 2, 1}, {0, 9, 5, 7}, {3, 1, 4, 2}} {
		m, c := cached(t, 20, 4)
		for _, n := range order {
			checkHold(t, m, c, n, false)
			checkDrop(t, c, n, true)
		}
		for i, n := range []int{10, 11, 12, 13} {
			checkHold(t, m, c, n, false)
			checkDrop(t, c, n, true)
			checkHas(t, m, c, append([]int{10, 11, 12, 13}[:i+1], order[i+1:]...)...)
		}
	}
}

func TestEmptyFramesAheadOfTheHand(t *testing.T) {
	// As long as there is an empty frame, no page goes and no mark.
	stage(t, 4,
		scene{"<1 >1 <2 >1 +3 -3", []int{1, 2, 3}},
		scene{">2 <4", []int{1, 2, 3, 4}},
		scene{"<5", []int{2, 3, 4, 5}},
		// The hand stands at 2's frame, and all marks are gone but that of 5.
		scene{">3 <6", []int{3, 4, 5, 6}},
		scene{"<7", []int{3, 5, 6, 7}},
	)
}

func TestHandOverMarked(t *testing.T) {
	stage(t, 3,
		scene{"<1 <2 <3", []int{1, 2, 3}},
		// All are marked: in the first round the marks go, in the second one the first frame.
		scene{"<4", []int{2, 3, 4}},
		// Neither held nor marked: 2, then 3.
		scene{"<5", []int{3, 4, 5}},
		scene{"<6", []int{4, 5, 6}},
		// Again all are marked, and the hand stands at the first frame.
		scene{"<7", []int{5, 6, 7}},
		// 5 is marked by a hit: 6 goes.
		scene{">5 <8", []int{5, 7, 8}},
		// 7's mark goes, and 5, which has lost its own.
		scene{"<9", []int{7, 8, 9}},
		// 8's mark goes, and 7.
		scene{"<10", []int{8, 9, 10}},
	)
}

func TestHandOverHeld(t *testing.T) {
	stage(t, 3,
		scene{"+1 <2 <3", []int{1, 2, 3}},
		// 1 is passed twice, and keeps its mark.
		scene{"+4", []int{1, 3, 4}},
		scene{"-1 -4", []int{1, 3, 4}},
		// The hand stands at 3, which a hit marks: its mark, that of 1 and that of 4 go, then it.
		scene{">3 <5", []int{1, 4, 5}},
		scene{"<6", []int{4, 5, 6}},
	)
}

func TestHandOverHeldOnesThatKeepTheirMarks(t *testing.T) {
	// A page that is held again and again, and dropped just ahead of the next miss, goes after those that lost their marks.
	stage(t, 4,
		scene{"+1 +2 <3 <4", []int{1, 2, 3, 4}},
		scene{"<5", []int{1, 2, 4, 5}},
		scene{"-1 <6", []int{1, 2, 5, 6}},
		// The hand stands at 1: its mark goes, 2 is held, the marks of 5 and 6 go, and 1.
		scene{"<7", []int{2, 5, 6, 7}},
		scene{"-2 <8", []int{2, 6, 7, 8}},
	)
}

func TestHandOverHeldAndMarkedAndNeither(t *testing.T) {
	stage(t, 4,
		scene{"<1 <2 <3 <4 <5", []int{2, 3, 4, 5}},
		// 2 is held, 3 marked, 4 neither.
		scene{"=2 >3 <6", []int{2, 3, 5, 6}},
		// 5 loses its mark, 2 is held, 3 has lost its own.
		scene{"<7", []int{2, 5, 6, 7}},
		// 6 loses its mark, and 5 has none.
		scene{"<8", []int{2, 6, 7, 8}},
		scene{"-2 <9", []int{2, 7, 8, 9}},
	)
}

func TestHandWithAllButOneHeld(t *testing.T) {
	for free := range 4 {
		m, c := cached(t, 12, 4)
		play(t, m, c, "+0 +1 +2 +3 !4")
		checkDrop(t, c, free, true)
		// All go through the one frame that isn't held.
		there := []int{0, 1, 2, 3}
		for n := 4; n < 12; n++ {
			checkHold(t, m, c, n, false)
			there[free] = n
			checkHas(t, m, c, there...)
			notHeld(t, c, free, api.ErrPin)
			checkDrop(t, c, n, true)
		}
		checkStats(t, c, 0, 12, 4, 3)
	}
}

func TestHandOfOneFrame(t *testing.T) {
	stage(t, 1,
		scene{"+1 !2 =1 !2 -1 !2 -1 +2", []int{2}},
		scene{"!1 -2 >2 <1", []int{1}},
		scene{"<3 <4 >4 >4 <5", []int{5}},
		scene{"?12 ~4 +6 ?12 ~5 !5", []int{6}},
	)
}

func TestHandBehindAPageThatWasTaken(t *testing.T) {
	stage(t, 3,
		scene{"<1 +2 <3 <4", []int{2, 3, 4}},
		// The hand stands at the second frame, which is held: 3, without its mark, goes, and the hand stands at the first one.
		scene{"<5", []int{2, 4, 5}},
		// Both are marked: 4's mark goes, 5's, and 4; the hand stands at the second frame.
		scene{"<6", []int{2, 5, 6}},
		// 2 is dropped, and loses its mark; 5 has none.
		scene{"-2 <7", []int{2, 6, 7}},
		// 6's mark goes, and 2.
		scene{"<8", []int{6, 7, 8}},
		// 7's mark goes, and 6.
		scene{"<9", []int{7, 8, 9}},
	)
}

func TestHandStaysAtHits(t *testing.T) {
	stage(t, 3,
		scene{"<1 <2 <3 >3 >1 >2 >2", []int{1, 2, 3}},
		// Hits left the hand at the first frame.
		scene{"<4", []int{2, 3, 4}},
		// And here at the second one, whose mark a hit has put back: 3 goes.
		scene{">4 >2 >4 <5", []int{2, 4, 5}},
		scene{">5 >2 >4 <6", []int{2, 5, 6}},
	)
}

func TestHandAfterTwoRounds(t *testing.T) {
	// The one frame that isn't held is marked, and the last one of the hand's round: it goes at the very end of the second one.
	stage(t, 3,
		scene{"+1 +2 <3", []int{1, 2, 3}},
		scene{"<4", []int{1, 2, 4}},
		scene{"-1 +5", []int{2, 4, 5}},
		// The hand stands at the second frame, and 5 in the first one.
		scene{"-5 =4 +6 !5", []int{2, 4, 6}},
		scene{"-2 -4 -6 <7", []int{4, 6, 7}},
	)
}

// TestPinChangesNothing holds what is answered after calls that are refused against what a cache answers that had none.
func TestPinChangesNothing(t *testing.T) {
	for _, script := range []string{
		"+1 +2 +3", "<1 <2 <3 <4 =2 =3 =4", "<1 <2 +3 <4 <5 =4 =5", "<1 +2 <3 <4 <5 =4 =5", "+1 <2 <3 <4 <5 =5 =4", "<1 <2 <3 >3 >1 <4 >2 =4 <5 =2 =5",
		"+1 =1 =1 +2 =2 +3", "<1 <2 <3 =3 =2 =1", "<1 <2 <3 <4 <5 +6 +7 +8",
	} {
		for _, after := range []string{"1", "2", "3", "1 2", "2 1", "1 3", "3 2", "2 3 1", "3 1 2", "1 2 3"} {
			m, c := cached(t, 12, 3)
			twin := made(t, m, 3)
			play(t, m, c, script)
			play(t, m, twin, script)
			was := c.Stats()
			for range 4 {
				play(t, m, twin, "!9 !10 !9 !11")
			}
			if got := twin.Stats(); got != was || was.Pinned != 3 {
				t.Fatalf("%s: %v, not %v", script, got, was)
			}
			there := slices.DeleteFunc([]int{0, 1, 2, 3, 4, 5, 6, 7, 8, 9, 10, 11}, func(n int) bool { return !c.Has(n) })
			checkHas(t, m, twin, there...)
			for _, word := range strings.Fields(after) {
				i, _ := strconv.Atoi(word)
				for c.Drop(there[i-1]) {
					checkDrop(t, twin, there[i-1], true)
				}
			}
			checkTwins(t, m, c, twin)
		}
	}
}

// checkTwins makes misses in both, each dropped again, until no page is there that was, and tells of what is otherwise.
func checkTwins(t *testing.T, m *image.Image, c, twin *Cache) {
	t.Helper()
	for n := range 12 {
		_, hit, e := c.Hold(n)
		if e != api.OK {
			notHeld(t, twin, n, e)
			continue
		}
		checkHold(t, m, twin, n, hit)
		c.Drop(n)
		checkDrop(t, twin, n, true)
		for i := range 12 {
			if c.Has(i) != twin.Has(i) {
				t.Fatalf("Has(%d): %v, not %v", i, twin.Has(i), c.Has(i))
			}
		}
	}
}

// TestRefusedChangesNothing makes each call that is refused or that asks in one of two caches alone.
func TestRefusedChangesNothing(t *testing.T) {
	for i, size := range sizes {
		m, c := cached(t, size.pages, size.frames)
		asked := made(t, m, size.frames)
		turns(2000, size.pages, uint32(i), func(hold bool, n int) {
			if !hold {
				checkDrop(t, asked, n, c.Drop(n))
			} else if _, hit, e := c.Hold(n); e != api.OK {
				notHeld(t, asked, n, e)
			} else {
				checkHold(t, m, asked, n, hit)
			}
			notHeld(t, asked, -1, api.ErrNone)
			notHeld(t, asked, size.pages, api.ErrNone)
			checkDrop(t, asked, -1, false)
			checkDrop(t, asked, size.pages, false)
			for p := range size.pages {
				if got := asked.Has(p); got != c.Has(p) {
					t.Fatalf("%v: Has(%d): %v", size, p, got)
				} else if !got {
					checkDrop(t, asked, p, false)
				}
				if s := asked.Stats(); !asked.Has(p) && s.Pinned == size.frames {
					notHeld(t, asked, p, api.ErrPin)
				}
			}
			if asked.Stats() != c.Stats() {
				t.Fatalf("%v: %v, not %v", size, asked.Stats(), c.Stats())
			}
		})
	}
}

func TestAllShortTurns(t *testing.T) {
	const pages, frames, calls, length = 3, 2, 6, 7
	m := pictured(t, pages)
	all := 1
	for range length {
		all *= calls
	}
	for code := range all {
		c, o := made(t, m, frames), modelOf(pages, frames)
		for x, step := code, 0; step < length; x, step = x/calls, step+1 {
			if n := x % pages; x%calls < pages {
				holdBoth(t, m, c, o, n)
			} else {
				checkDrop(t, c, n, o.drop(n))
			}
		}
		checkModel(t, c, o)
	}
}

func TestLongTurns(t *testing.T) {
	for i, size := range sizes {
		m, c := cached(t, size.pages, size.frames)
		o := modelOf(size.pages, size.frames)
		turns(6000, size.pages, uint32(100+i), func(hold bool, n int) {
			if hold {
				holdBoth(t, m, c, o, n)
			} else {
				checkDrop(t, c, n, o.drop(n))
			}
			checkModel(t, c, o)
		})
	}
}

func TestLongTurnsOfManyFrames(t *testing.T) {
	m, c := cached(t, 600, 300)
	o := modelOf(600, 300)
	// Few of them stay held.
	turns(20000, 600, 7, func(hold bool, n int) {
		if holdBoth(t, m, c, o, n) == api.OK && (!hold || n%50 != 0) {
			checkDrop(t, c, n, o.drop(n))
		}
	})
	checkModel(t, c, o)
}

func TestRunsOverAllPages(t *testing.T) {
	// A run over more pages than there are frames never hits, one over as many hits from its second time on.
	m, c := cached(t, 12, 5)
	for range 4 {
		for n := range 12 {
			checkHold(t, m, c, n, false)
			checkDrop(t, c, n, true)
		}
	}
	for time := range 4 {
		for n := range 5 {
			checkHold(t, m, c, n, time > 0)
			checkDrop(t, c, n, true)
		}
	}
	checkStats(t, c, 15, 53, 5, 0)
}

// P7.3

func TestDrop(t *testing.T) {
	m, c := cached(t, 12, 3)
	play(t, m, c, "+1 =1 +2 -1 =2 -2 -2 ~2 -1 ~1 ~1 ~2 ~3")
	checkHas(t, m, c, 1, 2)
	checkStats(t, c, 2, 2, 2, 0)
}

func TestDropOfAPageHeldTwice(t *testing.T) {
	m, c := cached(t, 12, 1)
	play(t, m, c, "+1 =1 !2 -1")
	checkStats(t, c, 1, 1, 1, 1)
	play(t, m, c, "!2 -1")
	checkStats(t, c, 1, 1, 1, 0)
	play(t, m, c, "~1")
	checkStats(t, c, 1, 1, 1, 0)
	// Dropped thrice, it isn't held less than never.
	play(t, m, c, "=1 !2 -1 ~1 +2 !1")
	checkStats(t, c, 2, 2, 1, 1)
}

func TestDropOfAPageHeldOften(t *testing.T) {
	m, c := cached(t, 12, 1)
	play(t, m, c, "+1")
	for range 70000 {
		c.Hold(1)
	}
	for range 70000 {
		checkDrop(t, c, 1, true)
	}
	play(t, m, c, "!2 -1 ~1 +2 ~1 -2")
	checkStats(t, c, 70000, 2, 1, 0)
}

func TestDropOfNoPage(t *testing.T) {
	m, c := cached(t, 9, 2)
	for _, script := range []string{"", "<0", "<1", "<2", "=1", "=2"} {
		play(t, m, c, script)
		was := c.Stats()
		for _, n := range append([]int{9, 10, 255, 256, 4095, 4096}, extremes...) {
			checkDrop(t, c, n, false)
		}
		for n := 3; n < 9; n++ {
			checkDrop(t, c, n, false)
		}
		if got := c.Stats(); got != was {
			t.Fatalf("%v, not %v", got, was)
		}
	}
}

func TestDropOfAPageThatWasThere(t *testing.T) {
	m, c := cached(t, 12, 1)
	play(t, m, c, "<1 +2 ~1 !1 -2 ~2 ~1 +1 ~2 -1")
	checkStats(t, c, 0, 3, 1, 0)
}

func TestDropLeavesMarksAndPages(t *testing.T) {
	stage(t, 2,
		scene{"+1 +2 -2 -1", []int{1, 2}},
		scene{"<3", []int{2, 3}},
		// 2 has lost its mark, and a drop neither marks nor empties a frame.
		scene{"~2 ~1 ~3 <4", []int{3, 4}},
	)
}

func TestHas(t *testing.T) {
	m, c := cached(t, 12, 2)
	checkHas(t, m, c)
	play(t, m, c, "?12 ?-1")
	checkHas(t, m, c)
	play(t, m, c, "+0")
	checkHas(t, m, c, 0)
	play(t, m, c, "-0")
	checkHas(t, m, c, 0)
	play(t, m, c, "+11 <4")
	checkHas(t, m, c, 4, 11)
	play(t, m, c, "=4 !0")
	checkHas(t, m, c, 4, 11)
	play(t, m, c, "-4 <0")
	checkHas(t, m, c, 0, 11)
}

func TestHasNeitherMarksNorHolds(t *testing.T) {
	m, c := cached(t, 12, 3)
	play(t, m, c, "<1 <2 <3 <4")
	for range 9 {
		checkHas(t, m, c, 2, 3, 4)
	}
	play(t, m, c, "<5")
	checkHas(t, m, c, 3, 4, 5)
	checkStats(t, c, 0, 5, 3, 0)
}

func TestStats(t *testing.T) {
	m, c := cached(t, 12, 3)
	for _, s := range []struct {
		script                     string
		hits, misses, held, pinned int
	}{
		{"", 0, 0, 0, 0}, {"?12 ?-1 ~0 ~1 ~12", 0, 0, 0, 0}, {"+0", 0, 1, 1, 1}, {"=0", 1, 1, 1, 1}, {"-0", 1, 1, 1, 1}, {"-0", 1, 1, 1, 0}, {"~0", 1, 1, 1, 0},
		{"=0", 2, 1, 1, 1}, {"<1", 2, 2, 2, 1}, {"+2", 2, 3, 3, 2}, {"=1", 3, 3, 3, 3}, {"!3 !4", 3, 3, 3, 3}, {"?12 ~3", 3, 3, 3, 3}, {"-2 +3", 3, 4, 3, 3},
		{"-0 -1 -3", 3, 4, 3, 0}, {"<4 <5 <6 <7", 3, 8, 3, 0}, {">7 >7 >7", 6, 8, 3, 0},
	} {
		play(t, m, c, s.script)
		for range 3 {
			checkStats(t, c, s.hits, s.misses, s.held, s.pinned)
		}
	}
}

func TestBytesAreNew(t *testing.T) {
	section := numbered(11)
	b, _ := image.Build(section)
	was := bytes.Clone(b)
	m, _ := image.Open(b)
	other, _ := image.Open(was)
	c, twin := made(t, m, 3), made(t, m, 3)
	var handed [][]byte
	for round := range 4 {
		for _, n := range []int{0, 1, 11, 1, 5, 0, 0, 11, 7} {
			want, _ := other.Page(n)
			for _, cache := range []*Cache{c, twin, c} {
				got, _, e := cache.Hold(n)
				if e != api.OK || !bytes.Equal(got, want) {
					t.Fatalf("round %d: Hold(%d): %x, %v", round, n, got, e)
				}
				// Growing an answer within its room would reach what follows, if the room were not its own.
				_ = append(got, 1, 2, 3)
				handed = append(handed, got)
				overwrite(got)
				cache.Drop(n)
			}
			if got, _ := m.Page(n); !bytes.Equal(got, want) {
				t.Fatalf("round %d: the image's page %d changed", round, n)
			}
		}
	}
	for i, l := range handed {
		before := bytes.Clone(l)
		for j, o := range handed {
			if i != j {
				overwrite(o)
			}
		}
		if !bytes.Equal(l, before) {
			t.Fatalf("answer %d changed with others", i)
		}
	}
	if !bytes.Equal(b, was) || !bytes.Equal(m.Section(0), section) {
		t.Error("the image's bytes changed")
	}
}

func TestBytesOutliveTheirFrames(t *testing.T) {
	m, c := cached(t, 12, 1)
	first, _, _ := c.Hold(3)
	want, _ := m.Page(3)
	play(t, m, c, "-3 <4 <5 +6")
	if !bytes.Equal(first, want) {
		t.Error("bytes changed with their frame")
	}
}

func TestNilCache(t *testing.T) {
	var c *Cache
	for range 2 {
		for _, n := range append([]int{0, 1, 2, 4095, 4096}, extremes...) {
			notHeld(t, c, n, api.ErrNil)
			checkDrop(t, c, n, false)
			if c.Has(n) {
				t.Errorf("Has(%d)", n)
			}
		}
		checkStats(t, c, 0, 0, 0, 0)
	}
}

// P7.4

func TestBounds(t *testing.T) {
	for i, size := range sizes {
		m, c := cached(t, size.pages, size.frames)
		holds := make([]int, size.pages)
		turns(6000, size.pages, uint32(200+i), func(hold bool, n int) {
			if !hold {
				if want := 0 <= n && n < size.pages && holds[n] > 0; c.Drop(n) != want {
					t.Fatalf("%v: Drop(%d): %v", size, n, !want)
				} else if want {
					holds[n]--
				}
			} else if _, _, e := c.Hold(n); e == api.OK {
				holds[n]++
			} else if e == api.ErrPin && c.Stats().Pinned != size.frames {
				t.Fatalf("%v: Hold(%d) is refused, and not all are held: %v", size, n, c.Stats())
			}
			there, held := 0, 0
			for p := range m.Pages() {
				if c.Has(p) {
					there++
				} else if holds[p] > 0 {
					t.Fatalf("%v: page %d is held %d times, and gone", size, p, holds[p])
				}
				if holds[p] > 0 {
					held++
				}
			}
			if s := c.Stats(); there > size.frames || s.Held != there || s.Pinned != held {
				t.Fatalf("%v: %d pages of which %d are held, and %v", size, there, held, s)
			}
		})
	}
}

func TestHeldPagesStay(t *testing.T) {
	m, c := cached(t, 300, 5)
	play(t, m, c, "+0 +7 +299")
	for n := 10; n < 290; n++ {
		checkHold(t, m, c, n, false)
		checkDrop(t, c, n, true)
		checkHas(t, m, c, append([]int{0, 7, 299, n}, before(n)...)...)
	}
	play(t, m, c, "=0 =7 =299")
	checkStats(t, c, 3, 283, 5, 3)
}

// before answers the page that was used ahead of page n, if one was.
func before(n int) []int {
	if n == 10 {
		return nil
	}
	return []int{n - 1}
}

// The chapter's examples.

func TestExamples(t *testing.T) {
	m, c := cached(t, 4, 2)
	play(t, m, c, "+1 +2")
	checkStats(t, c, 0, 2, 2, 2)
	play(t, m, c, "!3")
	checkHas(t, m, c, 1, 2)
	checkStats(t, c, 0, 2, 2, 2)
	play(t, m, c, "-1 +3")
	checkHas(t, m, c, 2, 3)
	checkStats(t, c, 0, 3, 2, 2)
	play(t, m, c, "=2")
	checkStats(t, c, 1, 3, 2, 2)
}
