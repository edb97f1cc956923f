package rate

import (
	"math"
	"testing"

	"snaffle/api"
)

// Numbers by their bits, written out: tests hold what is told against them, not against what the language makes of a float.
const (
	zero     = 0x0000000000000000
	minus    = 0x8000000000000000 // -0, and the bit that turns a number's sign
	smallest = 0x0000000000000001 // the least number above 0
	below    = 0x000fffffffffffff // the last one without a leading bit of its own
	normal   = 0x0010000000000000 // the first one with it
	half     = 0x3fe0000000000000
	under    = 0x3fefffffffffffff // the last one below 1
	one      = 0x3ff0000000000000
	two      = 0x4000000000000000
	last     = 0x4090000000000000 // 1024
	beyond   = 0x4090000000000001 // the first one above 1024
	greatest = 0x7fefffffffffffff
	infinite = 0x7ff0000000000000
	quiet    = 0x7ff8000000000000 // no number
)

// none are bits of no number.
var none = []uint64{
	quiet, quiet | minus, quiet + 1, math.MaxUint64, math.MaxInt64, infinite + 1, infinite | minus + 1,
	0x7ff7ffffffffffff, 0xfff7ffffffffffff, 0x7ff0000080000000, 0x7ff4000000000000, 0xfffc000000000123,
}

// rising are bits of numbers, each greater than the one ahead of it.
var rising = []uint64{
	infinite | minus, greatest | minus, 0xc340000000000000, beyond | minus, last | minus, two | minus, one + 1 | minus, one | minus, under | minus, half | minus,
	normal | minus, below | minus, smallest + 1 | minus, smallest | minus, zero, smallest, smallest + 1, below, normal,
	0x3ca0000000000000, half, 0x3feffffffffffffe, under, one, one + 1, 0x3ff8000000000000, 0x3fffffffffffffff, two, two + 1,
	0x408fffffffffffff, last, beyond, 0x433fffffffffffff, 0x4340000000000000, 0x4340000000000001, 0x43e0000000000000, greatest, infinite,
}

// P12.1, as are all up to TestBits.
func TestOf(t *testing.T) {
	for _, c := range []struct {
		bits uint64
		want int // 0: ErrArg
	}{
		{one, 1}, {one + 1, 1}, {0x3ff8000000000000, 1}, {0x3ff8000000000001, 1}, {0x3ffffffff0000000, 1}, {0x3fffffffffffffff, 1},
		{two, 2}, {two + 1, 2}, {0x4004000000000000, 2}, {0x4007ffffffffffff, 2}, {0x4008000000000000, 3}, {0x400c000000000000, 3},
		{0x4010000000000000, 4}, {0x4014000000000000, 5}, {0x401c000000000000, 7}, {0x401fffffffffffff, 7}, {0x4020000000000000, 8},
		{0x4059000000000000, 100}, {0x405fffffffffffff, 127}, {0x4070000000000000, 256}, {0x408ff80000000000, 1023}, {0x408ffc0000000000, 1023},
		{0x408fffffffffffff, 1023}, {last, 1024},

		// Below 1, by as little as can be, and by all.
		{under, 0}, {0x3feffffffffffffe, 0}, {0x3feccccccccccccd, 0}, {half, 0}, {normal, 0}, {below, 0}, {smallest, 0}, {zero, 0}, {minus, 0},
		{one | minus, 0}, {two | minus, 0}, {0xc01c000000000000, 0}, {last | minus, 0}, {beyond | minus, 0}, {smallest | minus, 0}, {greatest | minus, 0},

		// Above 1024, also where an int, an int32 or an int64 would go around.
		{beyond, 0}, {0x4090000000000002, 0}, {0x4090020000000000, 0}, {0x4090040000000000, 0}, {0x40a0000000000000, 0}, {0x40efffe000000000, 0}, {0x41e0000000000000, 0},
		{0x41f0000000100000, 0}, {0x43e0000000000000, 0}, {0x43f0000000000000, 0}, {0x7e37e43c8800759c, 0}, {greatest, 0},

		{infinite, 0}, {infinite | minus, 0},

		// A whole number isn't its own bits.
		{7, 0}, {1024, 0}, {math.MaxUint32, 0}, {0x3f800000, 0}, {0x3f80000000000000, 0},
	} {
		wantOf(t, c.bits, c.want)
	}
	for _, bits := range none {
		wantOf(t, bits, 0)
	}
}

// wantOf holds what Of tells against a whole number, or ErrArg, if that is 0.
func wantOf(t *testing.T, bits uint64, want int) {
	t.Helper()
	var fault error
	if want == 0 {
		fault = api.ErrArg
	}
	if n, err := Of(bits); n != want || err != fault {
		t.Errorf("Of(%#x): %d, %v, not %d, %v", bits, n, err, want, fault)
	}
}

// Each rate, as it is, and the numbers right beside it.
func TestOfAtEachNumber(t *testing.T) {
	for n := 1; n <= api.MaxRate; n++ {
		bits := math.Float64bits(float64(n))
		wantOf(t, bits, n)
		wantOf(t, bits-1, n-1)
		wantOf(t, bits|minus, 0)
		if n < api.MaxRate {
			wantOf(t, bits+1, n)
			wantOf(t, math.Float64bits(float64(n)+0.5), n)
		}
	}
}

func TestBits(t *testing.T) {
	for _, c := range []struct {
		n    int
		want uint64
	}{
		{0, zero}, {1, one}, {-1, one | minus}, {2, two}, {-2, two | minus}, {3, 0x4008000000000000}, {7, 0x401c000000000000}, {-7, 0xc01c000000000000},
		{10, 0x4024000000000000}, {1023, 0x408ff80000000000}, {1024, last}, {1025, 0x4090040000000000}, {-1024, last | minus}, {-1025, 0xc090040000000000},

		// Beyond what 24 and 32 bits hold.
		{1<<24 + 1, 0x4170000010000000}, {1<<31 - 1, 0x41dfffffffc00000}, {1 << 31, 0x41e0000000000000}, {-1 << 31, 0xc1e0000000000000},
		{1 << 32, 0x41f0000000000000}, {1<<32 + 7, 0x41f0000000700000}, {-1<<32 - 1, 0xc1f0000000100000}, {12345678901, 0x4206fee0e1a80000},

		// Up to 2^53, and no more.
		{1<<52 - 1, 0x432ffffffffffffe}, {1 << 52, 0x4330000000000000}, {1<<52 + 1, 0x4330000000000001}, {-1<<52 - 1, 0xc330000000000001},
		{1<<53 - 2, 0x433ffffffffffffe}, {1<<53 - 1, 0x433fffffffffffff}, {1 << 53, 0x4340000000000000}, {1<<53 + 1, 0}, {1<<53 + 2, 0}, {1 << 54, 0},
		{1 - 1<<53, 0xc33fffffffffffff}, {-1 << 53, 0xc340000000000000}, {-1<<53 - 1, 0}, {-1<<53 - 2, 0}, {-1 << 54, 0},
		{1 << 62, 0}, {-1 << 62, 0}, {math.MaxInt - 1, 0}, {math.MaxInt, 0}, {math.MinInt, 0}, {math.MinInt + 1, 0}, {-1<<63 + 1<<53, 0}, {1<<62 + 1, 0},
	} {
		if bits := Bits(c.n); bits != c.want {
			t.Errorf("Bits(%d): %#x, not %#x", c.n, bits, c.want)
		}
	}
}

// wantOrder holds what Less and Same tell of two numbers, both ways round, against whether the first is less, and whether they are the same.
func wantOrder(t *testing.T, a, b uint64, less, same, more bool) {
	t.Helper()
	if Less(a, b) != less || Less(b, a) != more {
		t.Errorf("Less of %#x and %#x: %v, the other way round %v", a, b, Less(a, b), Less(b, a))
	}
	if Same(a, b) != same || Same(b, a) != same {
		t.Errorf("Same of %#x and %#x: %v, the other way round %v", a, b, Same(a, b), Same(b, a))
	}
}

// P12.2, as are all up to TestZeros.
func TestOrder(t *testing.T) {
	for i, a := range rising {
		for k, b := range rising {
			wantOrder(t, a, b, i < k, i == k, i > k)
		}
	}
}

func TestWhatIsNoneIsInNoOrder(t *testing.T) {
	for _, a := range none {
		for _, b := range none {
			wantOrder(t, a, b, false, false, false)
		}
		for _, b := range append([]uint64{minus}, rising...) {
			wantOrder(t, a, b, false, false, false)
		}
	}
}

// 0 and -0 are the same, and to all others they are alike.
func TestZeros(t *testing.T) {
	wantOrder(t, zero, minus, false, true, false)
	wantOrder(t, zero, zero, false, true, false)
	wantOrder(t, minus, minus, false, true, false)
	for _, b := range rising {
		if b == zero {
			continue
		}
		wantOrder(t, minus, b, b < minus, false, b > minus)
		wantOrder(t, zero, b, b < minus, false, b > minus)
	}
}

// P12.3, as is the next one.
func TestOfBits(t *testing.T) {
	for n := -3 * api.MaxRate; n <= 3*api.MaxRate; n++ {
		want := n
		if n < 1 || n > api.MaxRate {
			want = 0
		}
		wantOf(t, Bits(n), want)
	}
	// What is beyond 2^53 comes to 0, which is no rate, nor is any number between.
	for at := 11; at < 64; at++ {
		for _, n := range []int{1<<at - 1, 1 << at, 1<<at + 1, -1 << at, 1<<at + 7} {
			wantOf(t, Bits(n), 0)
		}
	}
}

func TestOneOfThreeHolds(t *testing.T) {
	all := append([]uint64{minus}, rising...)
	for _, a := range all {
		for _, b := range all {
			if held(a, b) != 1 {
				t.Errorf("%#x and %#x: less %v, same %v, more %v", a, b, Less(a, b), Same(a, b), Less(b, a))
			}
		}
	}
}

// held tells how many hold: less, the same, the other way round less.
func held(a, b uint64) int {
	n := 0
	for _, ok := range []bool{Less(a, b), Same(a, b), Less(b, a)} {
		if ok {
			n++
		}
	}
	return n
}
