package lang

import (
	"bytes"
	"math/big"
	"math/rand/v2"
	"testing"

	"snaffle/api"
	"snaffle/set"
)

// letters are the bytes that made patterns are made of.
const letters = "abc"

// maker throws dice for a pattern.
type maker struct {
	dice  *rand.Rand
	sets  []string
	times int // how many times a Rep may be at most
}

func (m maker) pattern(deep int) api.Node {
	if deep == 0 || m.dice.IntN(4) == 0 {
		return one(m.sets[m.dice.IntN(len(m.sets))])
	}
	switch m.dice.IntN(4) {
	case 0:
		return of(api.Alt, m.kids(deep-1)...)
	case 1:
		return of(api.Cat, m.kids(deep-1)...)
	}
	high := 1 + m.dice.IntN(m.times)
	return rep(m.dice.IntN(high+1), high, m.pattern(deep-1))
}

func (m maker) kids(deep int) []api.Node {
	var l []api.Node
	for range 2 + m.dice.IntN(2) {
		l = append(l, m.pattern(deep))
	}
	return l
}

// wordsUpTo are all words over letters of at most so many bytes.
func wordsUpTo(size int) []string {
	l := []string{""}
	for at := 0; at < len(l); at++ {
		if len(l[at]) < size {
			for _, b := range letters {
				l = append(l, l[at]+string(b))
			}
		}
	}
	return l
}

type words map[string]bool

// behind are all of w with one of v behind it, of at most so many bytes.
func (w words) behind(v words, size int) words {
	l := words{}
	for x := range w {
		for y := range v {
			if len(x)+len(y) <= size {
				l[x+y] = true
			}
		}
	}
	return l
}

func (w words) add(v words) {
	for x := range v {
		w[x] = true
	}
}

// wordsOf makes all words of n of at most so many bytes, as the chapter tells them.
func wordsOf(n api.Node, size int) words {
	l := words{}
	switch n.Op {
	case api.One:
		for _, b := range letters {
			if n.Set[b/64]>>(b%64)&1 == 1 {
				l[string(b)] = true
			}
		}
	case api.Cat:
		l[""] = true
		for _, kid := range n.Kids {
			l = l.behind(wordsOf(kid, size), size)
		}
	case api.Alt:
		for _, kid := range n.Kids {
			l.add(wordsOf(kid, size))
		}
	case api.Rep:
		kid, so := wordsOf(n.Kids[0], size), words{"": true}
		for times := range n.Max + 1 {
			if times >= n.Min {
				l.add(so)
			}
			so = so.behind(kid, size)
		}
	}
	return l
}

// P3.1, P3.3: all short words of made patterns, and no others.
func TestMadePatterns(t *testing.T) {
	const size = 4
	all := wordsUpTo(size)
	m := maker{rand.New(rand.NewPCG(3, 8)), []string{"a", "b", "c", "ab", "bc", "abc", ""}, 4}
	for range 3000 {
		n := m.pattern(m.dice.IntN(6))
		want := wordsOf(n, size)
		least, most, any := Least(n), Most(n), Any(n)
		for _, w := range all {
			if got := Has(n, []byte(w)); got != want[w] {
				t.Fatalf("Has(%v, %q) is %v", n, w, got)
			}
			if !want[w] {
				continue
			}
			if len(w) < least || len(w) > most {
				t.Fatalf("%v has %q, but Least is %d, Most %d", n, w, least, most)
			}
			for _, b := range []byte(w) {
				if !set.Has(any, b) {
					t.Fatalf("%v has %q, but Any is %x", n, w, any)
				}
			}
		}
	}
}

// lengthsOf are the lengths of words of n, if all its Ones have one byte: element i tells whether there is one of i.
func lengthsOf(n api.Node, size int) []bool {
	l := make([]bool, size+1)
	switch n.Op {
	case api.One:
		l[1] = true
	case api.Cat:
		l[0] = true
		for _, kid := range n.Kids {
			l = together(l, lengthsOf(kid, size))
		}
	case api.Alt:
		for _, kid := range n.Kids {
			for i, ok := range lengthsOf(kid, size) {
				l[i] = l[i] || ok
			}
		}
	case api.Rep:
		kid, so := lengthsOf(n.Kids[0], size), make([]bool, size+1)
		so[0] = true
		for times := range n.Max + 1 {
			for i, ok := range so {
				l[i] = l[i] || ok && times >= n.Min
			}
			so = together(so, kid)
		}
	}
	return l
}

func together(l, k []bool) []bool {
	sums := make([]bool, len(l))
	for i, ok := range l {
		for j := 0; ok && i+j < len(k); j++ {
			sums[i+j] = sums[i+j] || k[j]
		}
	}
	return sums
}

// P3.1, P3.3: long words, and how many bytes they have.
func TestMadeLengths(t *testing.T) {
	const size = 200
	m := maker{rand.New(rand.NewPCG(5, 5)), []string{"a"}, 32}
	word := bytes.Repeat([]byte("a"), size)
	for range 150 {
		n := m.pattern(5)
		least, most := Least(n), Most(n)
		for i, want := range lengthsOf(n, size) {
			if got := Has(n, word[:i]); got != want {
				t.Fatalf("Has(%v, %d times a) is %v", n, i, got)
			}
			if want && (i < least || i > most) {
				t.Fatalf("%v has %d bytes, but Least is %d, Most %d", n, i, least, most)
			}
		}
	}
}

// bound tells Least or Most without the 1000.
func bound(n api.Node, times func(api.Node) int, better func(x, y *big.Int) bool) *big.Int {
	if n.Op == api.One {
		return big.NewInt(1)
	}
	var best *big.Int
	sum := new(big.Int)
	for _, kid := range n.Kids {
		b := bound(kid, times, better)
		sum.Add(sum, b)
		if best == nil || better(b, best) {
			best = b
		}
	}
	switch n.Op {
	case api.Alt:
		return best
	case api.Rep:
		sum.Mul(sum, big.NewInt(int64(times(n))))
	}
	return sum
}

func held(b *big.Int) int {
	if b.Cmp(big.NewInt(1000)) > 0 {
		return 1000
	}
	return int(b.Int64())
}

// P3.1.
func TestMadeBounds(t *testing.T) {
	m := maker{rand.New(rand.NewPCG(2, 6)), []string{"a", "bc"}, 32}
	for range 20000 {
		n := m.pattern(m.dice.IntN(9))
		least := held(bound(n, func(n api.Node) int { return n.Min }, func(x, y *big.Int) bool { return x.Cmp(y) < 0 }))
		most := held(bound(n, func(n api.Node) int { return n.Max }, func(x, y *big.Int) bool { return x.Cmp(y) > 0 }))
		if Least(n) != least || Most(n) != most {
			t.Fatalf("Least, Most of %v: %d, %d, not %d, %d", n, Least(n), Most(n), least, most)
		}
	}
}
