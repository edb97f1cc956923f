package ct

import "math/bits"

// The calls here go one way alone, whatever the cells hold: what a branch costs would tell of a cell what the trace doesn't.

// lt tells 1, if a is less than b, else 0.
func lt(a, b uint64) uint64 {
	_, less := bits.Sub64(a, b, 0)
	return less
}

// eq tells 1, if a and b are the same, else 0.
func eq(a, b uint64) uint64 { return lt(a^b, 1) }

// sel tells b, if a isn't 0, else c.
func sel(a, b, c uint64) uint64 {
	other := -eq(a, 0) // all bits, or none
	return b&^other | c&other
}

// csub tells a - b, if a isn't less than b, else a.
func csub(a, b uint64) uint64 {
	rest, less := bits.Sub64(a, b, 0)
	return rest + b&-less
}
