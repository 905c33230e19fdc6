// Package lent is of the tests alone: bytes to hand to a call that must neither change nor keep them.
package lent

import "bytes"

const (
	spare = 300 // more than a block: room for whatever a call might append
	mark  = 0xa5
)

// Bytes have spare capacity, which is as little a call's own as they are.
func Bytes(s string) []byte {
	b := bytes.Repeat([]byte{mark}, len(s)+spare)
	copy(b, s)
	return b[:len(s)]
}

// Untouched tells whether Bytes(s) are still what they were, their spare capacity too.
func Untouched(b []byte, s string) bool {
	return bytes.Equal(b[:cap(b)], append([]byte(s), bytes.Repeat([]byte{mark}, cap(b)-len(s))...))
}

// Scribble writes over all that a list can reach, so that shared memory shows.
func Scribble(b []byte) {
	b = b[:cap(b)]
	for i := range b {
		b[i] ^= 0x5a
	}
}
