package store

import (
	"slices"

	"colophon/api"
	"colophon/bwt"
	"colophon/image"
	"colophon/index"
	"colophon/pack"
	"colophon/suffix"
	"colophon/wave"
)

// The sections of an image; the levels of a row have one each, from the row's first section on.
const (
	aboutSection = iota
	belowSection
	turnedSection
)

const (
	turnedLevels  = 9
	ownersLevels  = 8
	ownersSection = turnedSection + turnedLevels
	sectionCount  = ownersSection + ownersLevels

	// The greatest number that may be in the turned row: all of nine bits.
	turnedMost = 1<<turnedLevels - 1
)

// How many bytes a number has: how many documents there are, any other one, a word of bits.
const (
	countBytes  = 2
	numberBytes = 4
	wordBytes   = 8
)

// byteValues is how many unlike bytes there may be.
const byteValues = 256

// said is what is said of a collection: how many documents and symbols there are, and where the whole row of symbols stands among its suffixes.
type said struct{ docs, symbols, whole int }

// content is what the sections have.
type content struct {
	said   said
	sizes  []int      // how many bytes each document has
	below  []int      // how many symbols are below each one
	levels [][]uint64 // the words of each level, those of the turned row first
}

// contentOf answers what the sections of an index have.
func contentOf(x *index.Index) (*content, api.Errno) {
	t := x.Text()
	symbols, alphabet := t.Symbols(), t.Alphabet()
	sa, e := suffix.Array(symbols, alphabet)
	if e != api.OK {
		return nil, e
	}
	// Of no symbols there is no such place, and 0 stands for it.
	c := &content{said: said{t.Docs(), t.Len(), max(0, slices.Index(sa, 0))}}
	for d := range t.Docs() {
		c.sizes = append(c.sizes, len(t.Bytes(d)))
	}
	row, e := bwt.Make(symbols, sa)
	if e != api.OK {
		return nil, e
	}
	if c.below, e = bwt.Counts(row, alphabet); e != api.OK {
		return nil, e
	}
	turned, e := wave.New(row, turnedMost)
	if e != api.OK {
		return nil, e
	}
	return c, c.layLevels(turned, x.Matrix())
}

// layLevels lays the words of these matrices' levels.
func (c *content) layLevels(all ...*wave.Matrix) api.Errno {
	for _, m := range all {
		for _, v := range m.Levels() {
			p, e := pack.New(1, v.Len())
			if e != api.OK {
				return e
			}
			for i := range v.Len() {
				if v.At(i) {
					p.Set(i, 1)
				}
			}
			c.levels = append(c.levels, p.Words())
		}
	}
	return api.OK
}

// sections answers the bytes of all sections.
func (c *content) sections() [][]byte {
	about := laid(nil, countBytes, c.said.docs)
	about = laid(about, numberBytes, c.said.symbols, c.said.whole)
	about = laid(about, numberBytes, c.sizes...)
	l := [][]byte{about, laid(nil, numberBytes, c.below...)}
	for _, words := range c.levels {
		l = append(l, laid(nil, wordBytes, words...))
	}
	return l
}

// contentIn answers what the sections of an image have, and whether they are as many as there must be, of whole numbers.
func contentIn(m *image.Image) (*content, bool) {
	if m.Sections() != sectionCount {
		return nil, false
	}
	c := &content{}
	if !c.readAbout(m.Section(aboutSection)) {
		return nil, false
	}
	var ok bool
	if c.below, ok = read[int](m.Section(belowSection), numberBytes); !ok {
		return nil, false
	}
	for s := turnedSection; s < sectionCount; s++ {
		words, ok := read[uint64](m.Section(s), wordBytes)
		if !ok {
			return nil, false
		}
		c.levels = append(c.levels, words)
	}
	return c, true
}

// readAbout reads what is said of the collection, and tells whether b has that.
func (c *content) readAbout(b []byte) bool {
	if len(b) < countBytes+2*numberBytes {
		return false
	}
	docs, _ := read[int](b[:countBytes], countBytes)
	l, ok := read[int](b[countBytes:], numberBytes)
	c.said = said{docs[0], l[0], l[1]}
	c.sizes = l[2:]
	return ok
}

func (c *content) turned() [][]uint64 {
	return c.levels[:turnedLevels]
}

func (c *content) owners() [][]uint64 {
	return c.levels[turnedLevels:]
}

// docs answers the documents whose symbols have the turned row, and whether it is one of symbols.
func (c *content) docs() ([][]byte, bool) {
	row, ok := rowOf(c.turned(), c.said.symbols)
	many := c.said.docs
	if !ok || many == 0 {
		return nil, ok
	}
	// The row of all symbols goes round: it is also that of those behind document 0's end and then document 0's, of which the last one is the least, as it must be to come back.
	round, e := bwt.Back(row, slices.Index(row, 0), many+byteValues)
	if e != api.OK {
		return nil, false
	}
	docs := make([][]byte, many)
	var doc []byte
	for _, x := range round {
		if x >= many {
			doc = append(doc, byte(x-many))
			continue
		}
		docs[x], doc = doc, nil
	}
	return docs, true
}

// isOf tells whether this is the content of the index of these documents.
func (c *content) isOf(docs [][]byte) bool {
	x, e := index.Build(docs...)
	if e != api.OK {
		return false
	}
	d, e := contentOf(x)
	return e == api.OK && c.said == d.said && slices.Equal(c.sizes, d.sizes) && slices.Equal(c.below, d.below) && slices.EqualFunc(c.levels, d.levels, slices.Equal)
}

// rowOf answers the row of so many numbers that has levels of these words, and whether there is one.
func rowOf(levels [][]uint64, many int) ([]int, bool) {
	var lists []*pack.Ints
	for _, words := range levels {
		p, e := pack.From(1, many, words)
		if e != api.OK {
			return nil, false
		}
		lists = append(lists, p)
	}
	row, at := make([]int, many), make([]int, many)
	for i := range at {
		at[i] = i
	}
	for _, p := range lists {
		next := down(p)
		for i, k := range at {
			row[i] = row[i]<<1 | int(p.Get(k))
			at[i] = next[k]
		}
	}
	return row, true
}

// down answers where each place of a level is in the next one: those of the noughts first, else as they stand.
func down(p *pack.Ints) []int {
	next := make([]int, p.Len())
	place := 0
	for bit := range uint64(2) {
		for i := range next {
			if p.Get(i) == bit {
				next[i] = place
				place++
			}
		}
	}
	return next
}

// laid answers b with these numbers behind it, in so many bytes each, the lowest one first.
func laid[T int | uint64](b []byte, size int, l ...T) []byte {
	for _, x := range l {
		for i := range size {
			b = append(b, byte(x>>(8*i)))
		}
	}
	return b
}

// read answers the numbers of so many bytes each, the lowest one first, and whether b has nothing else.
func read[T int | uint64](b []byte, size int) ([]T, bool) {
	var l []T
	for part := range slices.Chunk(b, size) {
		var x T
		for i, y := range part {
			x |= T(y) << (8 * i)
		}
		l = append(l, x)
	}
	return l, len(b)%size == 0
}
