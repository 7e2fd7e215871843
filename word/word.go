// Package word is layer 1: see shared/doc/01-word.md.
package word

import (
	"cmp"
	"math/bits"
)

const (
	wordBits  = 32
	wordBytes = 4
)

// Wide is a number of 128 bits.
type Wide struct{ Hi, Lo uint64 }

// hasField: is there a field of n bits at a place?
func hasField(at, n int) bool {
	// Not at+n <= wordBits: that sum may go round.
	return n >= 1 && n <= wordBits && at >= 0 && at <= wordBits-n
}

// lowest: a word whose lowest n bits (1 to 32) are set.
func lowest(n int) uint32 { return ^uint32(0) >> (wordBits - n) }

// Field: a field of a word.
func Field(w uint32, at, n int) uint32 {
	if !hasField(at, n) {
		return 0
	}
	return w >> at & lowest(n)
}

// Put: a word with a field.
func Put(w uint32, at, n int, v uint32) uint32 {
	if !hasField(at, n) {
		return w
	}
	mask := lowest(n) << at
	return w&^mask | v<<at&mask
}

// Extend: a number with its sign.
func Extend(v uint32, n int) uint32 {
	if !hasField(0, n) {
		return 0
	}
	// A signed shift to the right brings copies of the highest bit along.
	spare := wordBits - n
	return uint32(int32(v<<spare) >> spare)
}

// hasWord: are all bytes of a word there, from a place on?
func hasWord(b []byte, at int) bool {
	// Not at+wordBytes <= len(b): that sum may go round.
	return at >= 0 && at <= len(b)-wordBytes
}

// Get: the word in bytes.
func Get(b []byte, at int) (uint32, bool) {
	if !hasWord(b, at) {
		return 0, false
	}
	return uint32(b[at]) | uint32(b[at+1])<<8 | uint32(b[at+2])<<16 | uint32(b[at+3])<<24, true
}

// Set puts a word into bytes.
func Set(b []byte, at int, w uint32) bool {
	if !hasWord(b, at) {
		return false
	}
	b[at] = byte(w)
	b[at+1] = byte(w >> 8)
	b[at+2] = byte(w >> 16)
	b[at+3] = byte(w >> 24)
	return true
}

// Bytes: words' bytes.
func Bytes(list ...uint32) []byte {
	b := make([]byte, wordBytes*len(list))
	for i, w := range list {
		Set(b, wordBytes*i, w)
	}
	return b
}

// Mul: a product.
func Mul(a, b uint64) Wide {
	hi, lo := bits.Mul64(a, b)
	return Wide{Hi: hi, Lo: lo}
}

// Add: a sum.
func Add(a, b Wide) (Wide, bool) {
	lo, carry := bits.Add64(a.Lo, b.Lo, 0)
	hi, over := bits.Add64(a.Hi, b.Hi, carry)
	if over != 0 {
		return Wide{}, false
	}
	return Wide{Hi: hi, Lo: lo}, true
}

// Compare: the order of two numbers.
func Compare(a, b Wide) int {
	if order := cmp.Compare(a.Hi, b.Hi); order != 0 {
		return order
	}
	return cmp.Compare(a.Lo, b.Lo)
}

// Div: a quotient, and the rest.
func Div(a Wide, b uint64) (Wide, uint64, bool) {
	if b == 0 {
		return Wide{}, 0, false
	}
	// What is left of Hi is below b: bits.Div64 panics otherwise.
	hi, left := a.Hi/b, a.Hi%b
	lo, rest := bits.Div64(left, a.Lo, b)
	return Wide{Hi: hi, Lo: lo}, rest, true
}
