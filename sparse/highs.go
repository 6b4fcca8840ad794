package sparse

import (
	"colophon/api"
	"colophon/pack"
	"colophon/rank"
)

const wordBits = 64

// highs is a list of bits in two parts: of MaxInts places it has up to twice as many bits as a list of layer 2 may have.
type highs struct {
	first, rest *rank.Vec
}

// highsOf answers the list of so many bits that has these words. ErrForm.
func highsOf(count int, words []uint64) (highs, api.Errno) {
	ahead := min(count, api.MaxInts)
	cut := min(wordsOf(ahead), len(words))
	first, e := vecOf(ahead, words[:cut])
	if e != api.OK {
		return highs{}, e
	}
	rest, e := vecOf(count-ahead, words[cut:])
	if e != api.OK {
		return highs{}, e
	}
	return highs{first, rest}, api.OK
}

func vecOf(count int, words []uint64) (*rank.Vec, api.Errno) {
	p, e := pack.From(1, count, words)
	if e != api.OK {
		return nil, e
	}
	return rank.New(p)
}

func (h highs) len() int {
	return h.first.Len() + h.rest.Len()
}

func (h highs) ones() int {
	return h.first.Ones() + h.rest.Ones()
}

func (h highs) at(b int) bool {
	if b < h.first.Len() {
		return h.first.At(b)
	}
	return h.rest.At(b - h.first.Len())
}

// one answers the bit that is the one of number k; there must be such a one.
func (h highs) one(k int) int {
	ahead := h.first.Ones()
	if k < ahead {
		return h.first.Select(k)
	}
	return h.first.Len() + h.rest.Select(k-ahead)
}

// nought answers the bit that is the nought of number k, -1 of the number -1; there must be such a nought.
func (h highs) nought(k int) int {
	ahead := h.first.Len() - h.first.Ones()
	if k < ahead {
		return h.first.SelectZero(k)
	}
	return h.first.Len() + h.rest.SelectZero(k-ahead)
}

// words answers the bits in words as layer 1 lays them.
func (h highs) words() []uint64 {
	l := make([]uint64, wordsOf(h.len()))
	for b := range h.len() {
		if h.at(b) {
			setBit(l, b)
		}
	}
	return l
}

func setBit(words []uint64, b int) {
	words[b/wordBits] |= 1 << (b % wordBits)
}

func wordsOf(count int) int {
	return (count + wordBits - 1) / wordBits
}
