package classes

import (
	"math/rand/v2"
	"slices"
	"strconv"
	"testing"

	"snaffle/api"
	"snaffle/set"
)

func letters(text string) api.Set { return set.Of([]byte(text)) }

func all() api.Set { return set.Range(0, 255) }

// bit is the set of all bytes whose bit k is 1.
func bit(k int) api.Set {
	var b []byte
	for x := range 256 {
		if x>>k&1 == 1 {
			b = append(b, byte(x))
		}
	}
	return set.Of(b)
}

// bits are sets that tell all bytes apart: eight, the fewest there can be.
func bits() []api.Set {
	var l []api.Set
	for k := range 8 {
		l = append(l, bit(k))
	}
	return l
}

// shown writes how many classes there are, then each run of bytes of one class: where it begins, and its class.
func shown(class [256]int, n int) string {
	text := strconv.Itoa(n) + ":"
	for b, c := range class {
		if b == 0 || class[b-1] != c {
			text += " " + strconv.Itoa(b) + ">" + strconv.Itoa(c)
		}
	}
	return text
}

// P5.1, as are all up to TestManySets.
func TestOf(t *testing.T) {
	low, high := set.Range(0, 127), set.Range(128, 255)
	for _, c := range []struct {
		name string
		l    []api.Set
		want string
	}{
		{"nil", nil, "1: 0>0"},
		{"no sets", []api.Set{}, "1: 0>0"},

		{"none", []api.Set{{}}, "1: 0>0"},
		{"all", []api.Set{all()}, "1: 0>0"},
		{"none and all", []api.Set{{}, all()}, "1: 0>0"},
		{"all and none", []api.Set{all(), {}}, "1: 0>0"},
		{"none, all, and one", []api.Set{{}, all(), set.Range(5, 5)}, "2: 0>0 5>1 6>0"},
		{"one, all, and none", []api.Set{set.Range(5, 5), all(), {}}, "2: 0>0 5>1 6>0"},

		{"one byte", []api.Set{set.Range('a', 'a')}, "2: 0>0 97>1 98>0"},
		{"all but one", []api.Set{set.Not(set.Range('a', 'a'))}, "2: 0>0 97>1 98>0"},
		{"byte 0", []api.Set{set.Range(0, 0)}, "2: 0>0 1>1"},
		{"all but 0", []api.Set{set.Range(1, 255)}, "2: 0>0 1>1"},
		{"byte 255", []api.Set{set.Range(255, 255)}, "2: 0>0 255>1"},
		{"all but 255", []api.Set{set.Range(0, 254)}, "2: 0>0 255>1"},
		{"0 and 255 in one", []api.Set{set.Of([]byte{255, 0})}, "2: 0>0 1>1 255>0"},
		{"0 and 255", []api.Set{set.Range(0, 0), set.Range(255, 255)}, "3: 0>0 1>1 255>2"},
		{"255 and 0", []api.Set{set.Range(255, 255), set.Range(0, 0)}, "3: 0>0 1>1 255>2"},
		{"the last byte of each word", []api.Set{set.Of([]byte{63, 127, 191})}, "2: 0>0 63>1 64>0 127>1 128>0 191>1 192>0"},
		{"a range", []api.Set{set.Range(60, 70)}, "2: 0>0 60>1 71>0"},
		{"a range from 0", []api.Set{set.Range(0, 70)}, "2: 0>0 71>1"},

		{"one twice", []api.Set{letters("abc"), letters("abc")}, "2: 0>0 97>1 100>0"},
		{"one twice, another between", []api.Set{letters("ab"), letters("bc"), letters("ab")}, "4: 0>0 97>1 98>2 99>3 100>0"},
		{"a set and what it hasn't", []api.Set{low, high}, "2: 0>0 128>1"},
		{"what a set hasn't, and the set", []api.Set{high, low}, "2: 0>0 128>1"},

		{"apart", []api.Set{letters("ab"), letters("yz")}, "3: 0>0 97>1 99>0 121>2 123>0"},
		{"apart, the farther one first", []api.Set{letters("yz"), letters("ab")}, "3: 0>0 97>1 99>0 121>2 123>0"},
		{"side by side", []api.Set{set.Range(10, 19), set.Range(20, 29)}, "3: 0>0 10>1 20>2 30>0"},
		{"over each other", []api.Set{set.Range('a', 'c'), set.Range('c', 'd')}, "4: 0>0 97>1 99>2 100>3 101>0"},
		{"one within another", []api.Set{set.Range(10, 90), set.Range(40, 50)}, "3: 0>0 10>1 40>2 51>1 91>0"},
		{"one with another around", []api.Set{set.Range(40, 50), set.Range(10, 90)}, "3: 0>0 10>1 40>2 51>1 91>0"},
		{"alike but for one byte", []api.Set{set.Range(10, 90), set.Range(10, 91)}, "3: 0>0 10>1 91>2 92>0"},
		{"bytes between each other", []api.Set{letters("ace"), letters("bd")}, "3: 0>0 97>1 98>2 99>1 100>2 101>1 102>0"},
		{"between each other from 0 on", []api.Set{set.Of([]byte{0, 2, 4}), set.Of([]byte{1, 3})}, "3: 0>0 1>1 2>0 3>1 4>0 5>2"},
		{"around each other", []api.Set{set.Of([]byte{7, 250}), set.Of([]byte{9, 240})}, "3: 0>0 7>1 8>0 9>2 10>0 240>2 241>0 250>1 251>0"},
		{"all sides", []api.Set{low, set.Range(64, 191)}, "4: 0>0 64>1 128>2 192>3"},
		{"all sides, turned", []api.Set{set.Range(64, 191), high}, "4: 0>0 64>1 128>2 192>3"},
		{"three", []api.Set{set.Range(0, 9), set.Range(5, 14), set.Range(8, 19)}, "6: 0>0 5>1 8>2 10>3 15>4 20>5"},
	} {
		if got := shown(Of(c.l)); got != c.want {
			t.Errorf("%s: %s, not %s", c.name, got, c.want)
		}
	}
}

// Where each byte has a class of its own, it is the byte's own number, whatever tells it apart.
func TestMostClasses(t *testing.T) {
	var single, upTo, pairs []api.Set
	for b := range 256 {
		single = append(single, set.Range(byte(b), byte(b)))
		upTo = append(upTo, set.Range(0, byte(b)))
		pairs = append(pairs, set.Of([]byte{byte(b), byte(b + 1)}))
	}
	turned := slices.Clone(single)
	slices.Reverse(turned)
	var inside []api.Set
	for _, s := range bits() {
		inside = append(inside, set.Not(s))
	}
	for name, l := range map[string][]api.Set{
		"bits": bits(), "bits turned inside out": inside, "single bytes": single, "single bytes from 255 on": turned,
		"single bytes but one": single[1:], "up to each byte": upTo, "up to each byte but the last": upTo[:255],
		"pairs": pairs, "bits and all else": slices.Concat(bits(), pairs, single, upTo),
	} {
		class, n := Of(l)
		if n != 256 {
			t.Errorf("%s: %d classes", name, n)
		}
		for b, c := range class {
			if c != b {
				t.Errorf("%s: byte %d has class %d", name, b, c)
			}
		}
	}
	for k := range 8 {
		if _, n := Of(slices.Delete(bits(), k, k+1)); n != 128 {
			t.Errorf("without bit %d: %d classes", k, n)
		}
	}
	if _, n := Of(single[2:]); n != 255 {
		t.Errorf("single bytes but two: %d classes", n)
	}
}

// check holds what Of tells of l against the chapter's words: each two bytes, and the order of all.
func check(t *testing.T, l []api.Set) {
	t.Helper()
	class, n := Of(l)
	seen := 0
	for b, c := range class {
		if c < 0 || c > seen {
			t.Fatalf("%x: byte %d has class %d, and there were %d by then", l, b, c, seen)
		}
		seen = max(seen, c+1)
		for a := range b {
			alike := !slices.ContainsFunc(l, func(s api.Set) bool { return set.Has(s, byte(a)) != set.Has(s, byte(b)) })
			if alike != (class[a] == c) {
				t.Fatalf("%x: bytes %d and %d have classes %d and %d", l, a, b, class[a], c)
			}
		}
	}
	if n != seen {
		t.Fatalf("%x: %d classes, not %d", l, n, seen)
	}
}

// made tells count sets of the kinds that patterns have: single bytes, ranges, some bytes, halves, and all these turned.
func made(r *rand.Rand, count int) []api.Set {
	var l []api.Set
	for range count {
		a, b := byte(r.IntN(256)), byte(r.IntN(256))
		var s api.Set
		switch r.IntN(6) {
		case 0:
			s = set.Range(a, a)
		case 1:
			s = set.Range(min(a, b), max(a, b))
		case 2:
			s = set.Of([]byte{a, b, a + 1, b - 1})
		case 3:
			s = bit(r.IntN(8))
		case 4:
			s = api.Set{r.Uint64(), r.Uint64(), r.Uint64(), r.Uint64()}
		}
		if r.IntN(4) == 0 {
			s = set.Not(s)
		}
		l = append(l, s)
		if r.IntN(8) == 0 {
			l = append(l, l[r.IntN(len(l))])
		}
	}
	return l
}

func TestMadeSets(t *testing.T) {
	r := rand.New(rand.NewPCG(5, 1))
	check(t, nil)
	for range 200 {
		check(t, made(r, 1+r.IntN(12)))
	}
}

// Each two sets of the bytes at both ends, and at a seam between words, alone and beside a third one.
func TestSmallSets(t *testing.T) {
	var some []api.Set
	edges := []byte{0, 63, 64, 255}
	for k := range 1 << len(edges) {
		var b []byte
		for i, e := range edges {
			if k>>i&1 == 1 {
				b = append(b, e)
			}
		}
		some = append(some, set.Of(b))
	}
	for _, x := range some {
		check(t, []api.Set{x})
		for _, y := range some {
			check(t, []api.Set{x, y})
			check(t, []api.Set{set.Not(x), y, bit(0)})
		}
	}
}

// Nothing hangs on the sets' order, on how often one stands there, or on which side of it is told.
func TestOrderAndSides(t *testing.T) {
	r := rand.New(rand.NewPCG(5, 2))
	for range 200 {
		l := made(r, r.IntN(12))
		want := shown(Of(l))
		other := append(slices.Clone(l), l...)
		for i := range other {
			if r.IntN(2) == 0 {
				other[i] = set.Not(other[i])
			}
		}
		r.Shuffle(len(other), func(i, j int) { other[i], other[j] = other[j], other[i] })
		if got := shown(Of(other)); got != want {
			t.Fatalf("%x: %s, but in another order %s", l, want, got)
		}
	}
}

// P1, too: however many sets there are, all count, the last one as well as the first.
func TestManySets(t *testing.T) {
	l := make([]api.Set, 100000)
	if got := shown(Of(l)); got != "1: 0>0" {
		t.Error("sets of none:", got)
	}
	l[0], l[len(l)/2], l[len(l)-1] = set.Range(9, 255), set.Range(20, 255), set.Range(255, 255)
	if got := shown(Of(l)); got != "4: 0>0 9>1 20>2 255>3" {
		t.Error("three among sets of none:", got)
	}
	for i := range l {
		l[i] = bit(i % 8)
	}
	if class, n := Of(l); n != 256 || class[255] != 255 {
		t.Error("bits again and again:", n, class[255])
	}
}

// P5.2, as is the next one.
func TestWhatIsHandedInStays(t *testing.T) {
	r := rand.New(rand.NewPCG(5, 3))
	for size := range 20 {
		room := append(made(r, size), bits()...)
		was := slices.Clone(room)
		// With sets ahead of those that are handed in, and room behind them that isn't theirs.
		for end := range room {
			Of(room[:end])
			Of(room[end:])
		}
		if !slices.Equal(room, was) {
			t.Fatalf("%x is changed: %x", was, room)
		}
	}
}

func TestWhatIsHandedInIsForgotten(t *testing.T) {
	l := []api.Set{letters("ab"), letters("bc")}
	const want = "4: 0>0 97>1 98>2 99>3 100>0"
	class, n := Of(l)
	l[0], l[1] = all(), bit(3)
	if got := shown(class, n); got != want {
		t.Error("told otherwise when the sets are gone:", got)
	}
	if got := shown(Of(l)); got != shown(Of([]api.Set{bit(3)})) {
		t.Error("what was told ahead is kept:", got)
	}
	for i := range class {
		class[i] = -7
	}
	if got := shown(Of(nil)); got != "1: 0>0" {
		t.Error("what was told ahead is shared:", got)
	}
	if got := shown(Of([]api.Set{letters("ab"), letters("bc")})); got != want {
		t.Error("told otherwise again:", got)
	}
}

// P5.3: each set parts what there is, or leaves it; no two classes become one.
func TestMoreSetsMakeNoFewerClasses(t *testing.T) {
	r := rand.New(rand.NewPCG(5, 4))
	for range 50 {
		l := made(r, 30)
		was, before := Of(nil)
		for i := range l {
			class, n := Of(l[:i+1])
			if n < before || n > 2*before || n > 256 {
				t.Fatalf("%x: %d classes, and %d with the last set", l[:i+1], before, n)
			}
			for b := range 255 {
				if was[b] != was[b+1] && class[b] == class[b+1] {
					t.Fatalf("%x: the last set puts bytes %d and %d together", l[:i+1], b, b+1)
				}
			}
			was, before = class, n
		}
	}
}
