package xor

import (
	"math/bits"
)

// A vector over the field with two elements: its coordinates are the bits of
// its words, the lowest ones first.
type vector []uint64

// wordBits is the number of bits of a word.
const wordBits = 64

// none stands for no coordinate.
const none = -1

// newVector returns a vector with at least n coordinates, all of them 0.
func newVector(n int) vector {
	return make(vector, (n+wordBits-1)/wordBits)
}

// has reports whether a coordinate is 1.
func (v vector) has(i int) bool {
	return v[i/wordBits]>>(i%wordBits)&1 == 1
}

// set makes a coordinate 1.
func (v vector) set(i int) {
	v[i/wordBits] |= 1 << (i % wordBits)
}

// add adds a vector of the same length to v.
func (v vector) add(w vector) {
	for k := range v {
		v[k] ^= w[k]
	}
}

// first returns the first coordinate that is 1, or none.
func (v vector) first() int {
	for k, word := range v {
		if word != 0 {
			return k*wordBits + bits.TrailingZeros64(word)
		}
	}
	return none
}

// ones returns the coordinates that are 1, in ascending order.
func (v vector) ones() []int {
	var l []int
	for k, word := range v {
		for ; word != 0; word &= word - 1 {
			l = append(l, k*wordBits+bits.TrailingZeros64(word))
		}
	}
	return l
}
