package luhn

import (
	"bytes"
	"math/rand/v2"
	"slices"
	"strings"
	"testing"
)

// told is the chapter's words, said the other way round: digits are taken out first, and gone through from the front.
func told(w []byte) (int, int, bool) {
	var digits []int
	for _, b := range w {
		if k := strings.IndexByte("0123456789", b); k >= 0 {
			digits = append(digits, k)
		}
	}
	sum := 0
	for i, d := range digits {
		if (len(digits)-i)%2 == 0 {
			d = [10]int{0, 2, 4, 6, 8, 1, 3, 5, 7, 9}[d]
		}
		sum += d
	}
	return len(digits), sum % 10, len(digits) > 1 && sum%10 == 0
}

// check holds what Sum and Ok tell of w against the chapter's words.
func check(t *testing.T, w []byte) {
	t.Helper()
	n, sum := Sum(w)
	wantN, wantSum, ok := told(w)
	if n != wantN || sum != wantSum || Ok(w) != ok {
		t.Fatalf("%q: %d, %d, %v, not %d, %d, %v", w, n, sum, Ok(w), wantN, wantSum, ok)
	}
}

// P8.1, as are all up to TestManyDigits.
func TestSumAndOk(t *testing.T) {
	for _, c := range []struct {
		w      string
		n, sum int
		ok     bool
	}{
		{"", 0, 0, false},

		// One digit is too few, whatever its sum, and whatever stands around it.
		{"0", 1, 0, false}, {"1", 1, 1, false}, {"4", 1, 4, false}, {"5", 1, 5, false}, {"9", 1, 9, false},
		{" 0", 1, 0, false}, {"0 ", 1, 0, false}, {"a0b", 1, 0, false}, {"--7--", 1, 7, false},

		// Twice a number: as it is up to 4, and less 9 from 5 on.
		{"00", 2, 0, true}, {"10", 2, 2, false}, {"20", 2, 4, false}, {"30", 2, 6, false}, {"40", 2, 8, false},
		{"50", 2, 1, false}, {"60", 2, 3, false}, {"70", 2, 5, false}, {"80", 2, 7, false}, {"90", 2, 9, false},
		{"18", 2, 0, true}, {"26", 2, 0, true}, {"34", 2, 0, true}, {"42", 2, 0, true}, {"59", 2, 0, true},
		{"67", 2, 0, true}, {"75", 2, 0, true}, {"83", 2, 0, true}, {"91", 2, 0, true},
		{"81", 2, 8, false}, {"19", 2, 1, false}, {"17", 2, 9, false},

		// It is the last one that isn't doubled, of an odd number of digits too.
		{"100", 3, 1, false}, {"010", 3, 2, false}, {"001", 3, 1, false}, {"000", 3, 0, true},
		{"1000", 4, 2, false}, {"0100", 4, 1, false}, {"182", 3, 0, true}, {"018", 3, 0, true}, {"180", 3, 8, false},
		{"555", 3, 1, false}, {"5555", 4, 2, false}, {"999", 3, 7, false}, {"9999", 4, 6, false},

		// More than ten together: the last digit is told alone.
		{"99", 2, 8, false}, {"9999999999", 10, 0, true}, {"505", 3, 0, true},

		{"4111111111111111", 16, 0, true}, {"4111111111111112", 16, 1, false}, {"1111111111111114", 16, 7, false},
		{"79927398713", 11, 0, true}, {"79927398710", 11, 7, false}, {"378282246310005", 15, 0, true},
		{"30569309025904", 14, 0, true}, {"6011000990139424", 16, 0, true}, {"4222222222222", 13, 0, true},
		{"0123456789", 10, 7, false}, {"9876543210", 10, 3, false},

		// Other bytes aren't counted, not even for which digit is the second one.
		{"4111-1111 1111-1111", 16, 0, true}, {"1a8", 2, 0, true}, {"a18", 2, 0, true}, {"18a", 2, 0, true},
		{"1ab8", 2, 0, true}, {"a1b8c", 2, 0, true}, {"1abc9", 2, 1, false}, {"-0-0-", 2, 0, true}, {"1\n8\x00", 2, 0, true},
		{"abc", 0, 0, false}, {" ", 0, 0, false},

		// What stands beside the digits, by bits and by name, is none: no byte that is a digit with a bit turned, nor a letter's.
		{"/:", 0, 0, false}, {"/0:0/", 2, 0, true}, {"1/:8", 2, 0, true}, {"\xb0\xb1\xb8\xb9", 0, 0, false},
		{"pqxy", 0, 0, false}, {"\x10\x11 !()", 0, 0, false}, {"\x00\x01\x08\x09", 0, 0, false}, {"\u0661\u0668", 0, 0, false},
		{"\uff11\uff18", 0, 0, false}, {"²³¹", 0, 0, false}, {"\xff\xfe", 0, 0, false}, {"1e8", 2, 0, true}, {"-18", 2, 0, true},
	} {
		w := []byte(c.w)
		if n, sum := Sum(w); n != c.n || sum != c.sum || Ok(w) != c.ok {
			t.Errorf("%q: %d, %d, %v, not %d, %d, %v", c.w, n, sum, Ok(w), c.n, c.sum, c.ok)
		}
	}
	if n, sum := Sum(nil); n != 0 || sum != 0 || Ok(nil) {
		t.Error("no bytes at all:", n, sum, Ok(nil))
	}
}

// Each byte alone, and among digits: 48 to 57 count, and no other.
func TestWhichBytesAreDigits(t *testing.T) {
	for b := range 256 {
		wantN, wantSum := 0, 0
		if b >= 48 && b <= 57 {
			wantN, wantSum = 1, b-48
		}
		if n, sum := Sum([]byte{byte(b)}); n != wantN || sum != wantSum || Ok([]byte{byte(b)}) {
			t.Errorf("byte %d: %d, %d", b, n, sum)
		}
		for _, w := range []string{"?18", "1?8", "18?", "1?9", "?0", "0?", "4?2?", "?5?"} {
			check(t, bytes.ReplaceAll([]byte(w), []byte("?"), []byte{byte(b)}))
		}
	}
}

// All numbers of up to five digits, with those that begin with 0.
func TestAllShortNumbers(t *testing.T) {
	for size := range 6 {
		w := bytes.Repeat([]byte("0"), size)
		for more := true; more; more = next(w) {
			check(t, w)
		}
	}
}

// next turns w into the number behind it, and tells whether there was one.
func next(w []byte) bool {
	for i := len(w) - 1; i >= 0; i-- {
		if w[i] < '9' {
			w[i]++
			return true
		}
		w[i] = '0'
	}
	return false
}

// made tells bytes of which about one in few is none of the digits.
func made(r *rand.Rand, size, few int) []byte {
	w := make([]byte, size)
	for i := range w {
		w[i] = byte('0' + r.IntN(10))
		if r.IntN(few) == 0 {
			w[i] = byte(r.IntN(256))
		}
	}
	return w
}

func TestMadeBytes(t *testing.T) {
	r := rand.New(rand.NewPCG(8, 1))
	for range 20000 {
		check(t, made(r, r.IntN(40), 1+r.IntN(8)))
	}
}

// P1, too: however many there are, each one is counted.
func TestManyDigits(t *testing.T) {
	for _, size := range []int{255, 256, 257, 1000, 65535, 65536, 65537, 1 << 22} {
		for _, digit := range []string{"0", "1", "5", "9", "x"} {
			check(t, bytes.Repeat([]byte(digit), size))
		}
	}
	long := bytes.Repeat([]byte("9"), 1<<22)
	if n, sum := Sum(long); n != 1<<22 || sum != 6 {
		t.Error(n, sum)
	}
	long[0] = '4'
	if n, sum := Sum(long); n != 1<<22 || sum != 5 {
		t.Error("the first of many counts for nothing:", n, sum)
	}
}

// P8.2, as is the next one.
func TestAnotherDigitMakesAnotherSum(t *testing.T) {
	r := rand.New(rand.NewPCG(8, 2))
	for range 500 {
		w := made(r, 1+r.IntN(30), 5)
		n, sum := Sum(w)
		for i, was := range w {
			if was < '0' || was > '9' {
				continue
			}
			seen := map[int]bool{}
			for d := byte('0'); d <= '9'; d++ {
				w[i] = d
				count, other := Sum(w)
				if count != n || seen[other] || (other == sum) != (d == was) {
					t.Fatalf("%q with %q at %d: %d digits, sum %d, and it was %d", w, was, i, count, other, sum)
				}
				seen[other] = true
			}
			w[i] = was
		}
	}
}

func TestOtherBytesChangeNothing(t *testing.T) {
	r := rand.New(rand.NewPCG(8, 3))
	for range 200 {
		w := made(r, r.IntN(20), 4)
		n, sum := Sum(w)
		for at := range len(w) + 1 {
			b := byte(r.IntN(256))
			for b >= '0' && b <= '9' {
				b = byte(r.IntN(256))
			}
			for times := range 4 {
				more := slices.Insert(slices.Clone(w), at, bytes.Repeat([]byte{b}, times)...)
				if count, other := Sum(more); count != n || other != sum || Ok(more) != Ok(w) {
					t.Fatalf("%q and %q: %d, %d, and it was %d, %d", w, more, count, other, n, sum)
				}
			}
		}
	}
}

// R2: with bytes ahead of those that are handed in, and room behind them that isn't theirs.
func TestWhatIsHandedInStays(t *testing.T) {
	r := rand.New(rand.NewPCG(8, 4))
	for range 50 {
		room := made(r, 20, 3)
		was := slices.Clone(room)
		for i := range room {
			check(t, room[:i])
			check(t, room[i:])
		}
		if !bytes.Equal(room, was) {
			t.Fatalf("%q is changed: %q", was, room)
		}
	}
}

// R2, too: a call hangs on none ahead of it.
func TestWhatIsHandedInIsForgotten(t *testing.T) {
	w := []byte("18")
	if !Ok(w) {
		t.Error("18 isn't Ok")
	}
	w[1] = '9'
	if n, sum := Sum(w); n != 2 || sum != 1 || Ok(w) {
		t.Error("what was handed in ahead is kept:", n, sum)
	}
	for range 3 {
		check(t, []byte("4111111111111111"))
		check(t, []byte("7"))
		check(t, nil)
	}
}
