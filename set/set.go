// Package set is layer 1: see shared/doc/01-set.md.
package set

import (
	"math/bits"

	"snaffle/api"
)

// Has tells whether s has b: P1.1.
func Has(s api.Set, b byte) bool { return s[b/64]>>(b%64)&1 == 1 }

// Of tells the set of all bytes of b: P1.1.
func Of(b []byte) api.Set {
	var s api.Set
	for _, x := range b {
		s = with(s, x)
	}
	return s
}

// Range tells the set of all bytes from lo to hi: P1.1.
func Range(lo, hi byte) api.Set {
	var s api.Set
	// An int, since a byte would go round behind a hi of 255, and never end.
	for b := int(lo); b <= int(hi); b++ {
		s = with(s, byte(b))
	}
	return s
}

// Or tells what one of both has: P1.1.
func Or(s, t api.Set) api.Set {
	for i, w := range t {
		s[i] |= w
	}
	return s
}

// Not tells what s hasn't: P1.1.
func Not(s api.Set) api.Set {
	for i, w := range s {
		s[i] = ^w
	}
	return s
}

// Count tells how many bytes s has: P1.1.
func Count(s api.Set) int {
	n := 0
	for _, w := range s {
		n += bits.OnesCount64(w)
	}
	return n
}

// Bytes tells all bytes of s: P1.1.
func Bytes(s api.Set) []byte {
	var l []byte
	for b := range 256 {
		if Has(s, byte(b)) {
			l = append(l, byte(b))
		}
	}
	return l
}

func with(s api.Set, b byte) api.Set {
	s[b/64] |= 1 << (b % 64)
	return s
}
