package rate

import (
	"math/big"
	"math/rand/v2"
	"testing"

	"snaffle/api"
)

// number tells what number has these bits, by IEEE 754's words and numbers without end: nil, if none has.
func number(bits uint64) *big.Float {
	power, part := int(bits>>52&0x7ff), bits&(1<<52-1)
	x := new(big.Float).SetPrec(64)
	switch {
	case power == 0x7ff && part != 0:
		return nil
	case power == 0x7ff:
		x.SetInf(false)
	case power == 0:
		x.SetMantExp(x.SetUint64(part), -1074)
	default:
		x.SetMantExp(x.SetUint64(part|1<<52), power-1075)
	}
	if bits>>63 == 1 {
		x.Neg(x)
	}
	return x
}

// rate tells the whole number of a rate by the chapter's words: 0, if there is none.
func rate(bits uint64) int {
	x := number(bits)
	if x == nil || x.IsInf() || x.Cmp(big.NewFloat(1)) < 0 || x.Cmp(big.NewFloat(api.MaxRate)) > 0 {
		return 0
	}
	n := 1
	for n < api.MaxRate && big.NewFloat(float64(n+1)).Cmp(x) <= 0 {
		n++
	}
	return n
}

// made tells bits that are often near an edge, or those of a rate.
func made(dice *rand.Rand) uint64 {
	near := uint64(dice.IntN(5)) - 2
	switch dice.IntN(6) {
	case 0:
		return rising[dice.IntN(len(rising))] + near
	case 1:
		return none[dice.IntN(len(none))] + near
	case 2: // from a half to 2048
		return dice.Uint64()>>12 | uint64(0x3fe+dice.IntN(12))<<52
	case 3: // few bits, so that there are whole numbers
		return dice.Uint64()>>60<<48 | uint64(0x3fe+dice.IntN(12))<<52 + near
	case 4: // what is none, infinite, or near 0
		return dice.Uint64()<<63 | uint64(dice.IntN(2)*0x7ff)<<52 | dice.Uint64()>>12>>dice.IntN(52)
	}
	return dice.Uint64()
}

// P12.1.
func TestMadeRates(t *testing.T) {
	dice := rand.New(rand.NewPCG(12, 1))
	rates := 0
	for range 50000 {
		bits := made(dice)
		want := rate(bits)
		if want > 0 {
			rates++
		}
		wantOf(t, bits, want)
	}
	if rates < 10000 {
		t.Error("too few rates:", rates)
	}
}

// P12.1: a whole number up to 2^53 has just one row of bits, but for 0.
func TestBitsOfMadeNumbers(t *testing.T) {
	dice := rand.New(rand.NewPCG(12, 2))
	held := 0
	for range 100000 {
		n := int(dice.Uint64()) >> dice.IntN(64)
		if dice.IntN(4) == 0 { // at a power of 2
			n = 1<<dice.IntN(64) + dice.IntN(5) - 2
		}
		want := new(big.Float).SetInt64(int64(n))
		if n > 1<<53 || n < -1<<53 {
			want.SetInt64(0)
		} else {
			held++
		}
		bits := Bits(n)
		if x := number(bits); x == nil || x.Cmp(want) != 0 || n == 0 && bits != 0 || want.Sign() == 0 && bits != 0 {
			t.Fatalf("Bits(%d): %#x", n, bits)
		}
	}
	if held < 10000 || held > 90000 {
		t.Error("too few of one kind:", held)
	}
}

// P12.2 and P12.3.
func TestOrderOfMadeNumbers(t *testing.T) {
	dice := rand.New(rand.NewPCG(12, 3))
	var seen [4]int
	for range 200000 {
		a, b := made(dice), made(dice)
		switch dice.IntN(4) {
		case 0: // right beside it, or it itself
			b = a + uint64(dice.IntN(3)) - 1
		case 1: // but for one bit
			b = a ^ 1<<dice.IntN(64)
		}
		x, y := number(a), number(b)
		if x == nil || y == nil {
			seen[3]++
			wantOrder(t, a, b, false, false, false)
			continue
		}
		order := x.Cmp(y)
		seen[order+1]++
		wantOrder(t, a, b, order < 0, order == 0, order > 0)
		if held(a, b) != 1 {
			t.Fatalf("%#x and %#x: %d of three hold", a, b, held(a, b))
		}
	}
	for i, n := range seen {
		if n < 5000 {
			t.Error("too few of kind", i, n)
		}
	}
}

// Nothing is kept: what a call tells hangs on none ahead of it.
func TestNothingIsKept(t *testing.T) {
	dice := rand.New(rand.NewPCG(12, 4))
	for range 2000 {
		a, b, n := made(dice), made(dice), int(dice.Uint64())>>dice.IntN(64)
		whole, fault := Of(a)
		bits, less, same := Bits(n), Less(a, b), Same(a, b)
		for range 3 {
			c := made(dice)
			wantOf(t, c, rate(c))
			Bits(int(c))
			Less(c, a)
			Same(b, c)
		}
		if again, err := Of(a); again != whole || err != fault {
			t.Fatalf("Of(%#x): %d, %v, then %d, %v", a, whole, fault, again, err)
		}
		if Bits(n) != bits || Less(a, b) != less || Same(a, b) != same {
			t.Fatalf("another answer the second time, of %#x, %#x or %d", a, b, n)
		}
	}
}
