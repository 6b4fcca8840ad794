// Package pack is layer 1: numbers of a few bits each, packed into words.
package pack

import (
	"math/bits"

	"colophon/api"
)

const wordBits = 64

// Ints is a packed list.
type Ints struct {
	width int
	n     int
	words []uint64
}

// New answers a list of n noughts. ErrArg.
func New(width, n int) (*Ints, api.Errno) {
	if !mayBe(width, n) {
		return nil, api.ErrArg
	}
	return &Ints{width, n, make([]uint64, wordsOf(width*n))}, api.OK
}

// From answers the list that has these words. ErrArg, ErrForm.
func From(width, n int, words []uint64) (*Ints, api.Errno) {
	if !mayBe(width, n) {
		return nil, api.ErrArg
	}
	if !justHolds(words, width*n) {
		return nil, api.ErrForm
	}
	return &Ints{width, n, copyOf(words)}, api.OK
}

// Get answers number i, 0 if there is none.
func (p *Ints) Get(i int) uint64 {
	if !p.has(i) {
		return 0
	}
	word, low := p.place(i)
	v := p.words[word] >> low
	if low+p.width > wordBits {
		v |= p.words[word+1] << (wordBits - low)
	}
	return v & ones(p.width)
}

// Set makes v number i, if there is such a number and v fits.
func (p *Ints) Set(i int, v uint64) bool {
	if !p.has(i) || v > ones(p.width) {
		return false
	}
	word, low := p.place(i)
	mask := ones(p.width)
	p.words[word] = p.words[word]&^(mask<<low) | v<<low
	if low+p.width > wordBits {
		first := wordBits - low
		p.words[word+1] = p.words[word+1]&^(mask>>first) | v>>first
	}
	return true
}

// Len answers how many numbers there are.
func (p *Ints) Len() int {
	if p == nil {
		return 0
	}
	return p.n
}

// Width answers how many bits each number has.
func (p *Ints) Width() int {
	if p == nil {
		return 0
	}
	return p.width
}

// Words answers a copy of the words.
func (p *Ints) Words() []uint64 {
	if p == nil {
		return nil
	}
	return copyOf(p.words)
}

// Width answers the least width of which most is a number.
func Width(most uint64) int {
	return max(1, bits.Len64(most))
}

func (p *Ints) has(i int) bool {
	return p != nil && i >= 0 && i < p.n
}

// place answers the word in which number i begins, and at which of its bits.
func (p *Ints) place(i int) (int, int) {
	bit := i * p.width
	return bit / wordBits, bit % wordBits
}

func mayBe(width, n int) bool {
	return width >= 1 && width <= wordBits && n >= 0 && n <= api.MaxInts
}

func wordsOf(count int) int {
	return (count + wordBits - 1) / wordBits
}

// justHolds tells whether so many bits need all the words, and leave nothing set behind them.
func justHolds(words []uint64, count int) bool {
	if len(words) != wordsOf(count) {
		return false
	}
	used := count % wordBits
	return used == 0 || words[len(words)-1]>>used == 0
}

// ones answers the greatest number of a width; of 64 bits the shift leaves 0, and 0 - 1 has them all.
func ones(width int) uint64 {
	return uint64(1)<<width - 1
}

// copyOf answers a list with no spare room, so that its caller reaches nothing else by it.
func copyOf(words []uint64) []uint64 {
	l := make([]uint64, len(words))
	copy(l, words)
	return l
}
