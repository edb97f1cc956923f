package lang

import (
	"iter"
	"math/bits"
	"slices"
)

// places are places in a word of so many bytes: bit i is the one ahead of byte i, the last bit the one behind all.
type places []uint64

func nowhere(size int) places { return make(places, size/64+1) }

func only(at, size int) places {
	p := nowhere(size)
	p.add(at)
	return p
}

func (p places) add(at int) { p[at/64] |= 1 << (at % 64) }

func (p places) has(at int) bool { return p[at/64]>>(at%64)&1 == 1 }

func (p places) none() bool {
	for _, chunk := range p {
		if chunk != 0 {
			return false
		}
	}
	return true
}

// join adds all places of q.
func (p places) join(q places) {
	for i, chunk := range q {
		p[i] |= chunk
	}
}

// without tells the places that q hasn't.
func (p places) without(q places) places {
	left := slices.Clone(p)
	for i, chunk := range q {
		left[i] &^= chunk
	}
	return left
}

// all tells the places, rising.
func (p places) all() iter.Seq[int] {
	return func(yield func(int) bool) {
		for i, chunk := range p {
			for ; chunk != 0; chunk &= chunk - 1 {
				if !yield(64*i + bits.TrailingZeros64(chunk)) {
					return
				}
			}
		}
	}
}
