// Package word is layer 1, words of 64 bits: see shared/doc/01-word.md.
package word

import "math/bits"

const (
	bitCount  = 64
	byteCount = 8

	// An odd factor without a pattern of its own, so that each bit of a word reaches many of a sum's.
	factor = 0x9e3779b97f4a7c15
	// The upper half is turned, so that it isn't laid over the lower one as it stands.
	turn = 17
)

// Field: n bits of a word, from bit at on, as a number; bits above 63 are noughts. Of no such bits 0.
func Field(w uint64, at, n int) uint64 {
	if !within(at, n) {
		return 0
	}
	return w >> at & ones(n)
}

// With: a word in which these bits are v's lowest n; those above 63 are lost. Of no such bits the word itself.
func With(w uint64, at, n int, v uint64) uint64 {
	if !within(at, n) {
		return w
	}
	mask := ones(n) << at
	return w&^mask | v<<at&mask
}

// Sign: v's lowest n bits, of which the highest counts below 0, as 64 bits. n not 1 to 64: 0.
func Sign(v uint64, n int) uint64 {
	if n < 1 || n > bitCount {
		return 0
	}
	spare := bitCount - n
	// A shift of a signed number brings its highest bit along.
	return uint64(int64(v<<spare) >> spare)
}

// Bytes: a word as eight bytes, the lowest first.
func Bytes(w uint64) []byte {
	p := make([]byte, byteCount)
	for i := range p {
		p[i] = byte(w >> (8 * i))
	}
	return p
}

// Of: the word of the first eight bytes, the lowest first; noughts where there are fewer.
func Of(p []byte) uint64 {
	var w uint64
	for i := range min(len(p), byteCount) {
		w |= uint64(p[i]) << (8 * i)
	}
	return w
}

// Mix: a sum, and one more word in it.
func Mix(sum, w uint64) uint64 {
	upper, lower := bits.Mul64(sum^w, factor)
	return bits.RotateLeft64(upper, turn) ^ lower
}

// First: the place of the lowest one; 64: there is none.
func First(w uint64) int {
	return bits.TrailingZeros64(w)
}

func within(at, n int) bool {
	return at >= 0 && at < bitCount && n >= 1
}

// ones takes every n from 1 on: a shift by 64 or more leaves 0, and one less than that is a word of ones.
func ones(n int) uint64 {
	return 1<<n - 1
}
