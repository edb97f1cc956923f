package mask

import (
	"bytes"
	"fmt"
	"math"
	"math/rand/v2"
	"reflect"
	"slices"
	"strings"
	"testing"

	"snaffle/api"
)

// letters are the bytes that made rules are made of: with these digits some numbers pass the check, as 18 and 00, and some fail it.
const letters = "a018-"

// maker throws dice for rules and bytes.
type maker struct{ dice *rand.Rand }

func (m maker) pattern(deep int) api.Node {
	if deep == 0 || m.dice.IntN(4) == 0 {
		return m.one()
	}
	switch m.dice.IntN(4) {
	case 0:
		return api.Node{Op: api.Alt, Kids: m.kids(deep - 1)}
	case 1:
		return api.Node{Op: api.Cat, Kids: m.kids(deep - 1)}
	}
	high := 1 + m.dice.IntN(4)
	return api.Node{Op: api.Rep, Min: m.dice.IntN(high + 1), Max: high, Kids: []api.Node{m.pattern(deep - 1)}}
}

func (m maker) kids(deep int) []api.Node {
	var l []api.Node
	for range 2 + m.dice.IntN(2) {
		l = append(l, m.pattern(deep))
	}
	return l
}

func (m maker) one() api.Node {
	var in api.Set
	for _, b := range m.bytes(m.dice.IntN(4)) {
		in[b/64] |= 1 << (b % 64)
	}
	return api.Node{Op: api.One, Set: in}
}

func (m maker) rules(most int) []Rule {
	var l []Rule
	for range m.dice.IntN(most + 1) {
		l = append(l, Rule{N: m.pattern(m.dice.IntN(5)), Luhn: m.dice.IntN(2) == 0})
	}
	return l
}

func (m maker) bytes(size int) []byte {
	x := make([]byte, size)
	for i := range x {
		x[i] = letters[m.dice.IntN(len(letters))]
	}
	return x
}

type words map[string]bool

func (w words) add(v words) {
	for x := range v {
		w[x] = true
	}
}

// pieces are all that stands together in x, and nothing at all.
func pieces(x string) words {
	l := words{"": true}
	for from := range len(x) {
		for to := from + 1; to <= len(x); to++ {
			l[x[from:to]] = true
		}
	}
	return l
}

// behind are all of w with one of v behind it that are among some.
func (w words) behind(v, some words) words {
	l := words{}
	for x := range w {
		for y := range v {
			if some[x+y] {
				l[x+y] = true
			}
		}
	}
	return l
}

// wordsOf makes all words of n that are among some, as layer 3's chapter tells them; some has all pieces of each of its own.
func wordsOf(n api.Node, some words) words {
	l := words{}
	switch n.Op {
	case api.One:
		for b := range 256 {
			if w := string([]byte{byte(b)}); n.Set[b/64]>>(b%64)&1 == 1 && some[w] {
				l[w] = true
			}
		}
	case api.Cat:
		l[""] = true
		for _, kid := range n.Kids {
			l = l.behind(wordsOf(kid, some), some)
		}
	case api.Alt:
		for _, kid := range n.Kids {
			l.add(wordsOf(kid, some))
		}
	case api.Rep:
		kid, so := wordsOf(n.Kids[0], some), words{"": true}
		for times := range n.Max + 1 {
			if times >= n.Min {
				l.add(so)
			}
			so = so.behind(kid, some)
		}
	}
	return l
}

// checks tells whether w is Ok, as layer 8's chapter tells it: of its digits from the last one on.
func checks(w string) bool {
	n, sum := 0, 0
	for i := len(w) - 1; i >= 0; i-- {
		k := strings.IndexByte("0123456789", w[i])
		if k < 0 {
			continue
		}
		if n%2 == 1 {
			k = [10]int{0, 2, 4, 6, 8, 1, 3, 5, 7, 9}[k]
		}
		n, sum = n+1, sum+k
	}
	return n > 1 && sum%10 == 0
}

// fitting are all pieces of x that r fits.
func fitting(r Rule, x string) words {
	l := wordsOf(r.N, pieces(x))
	for w := range l {
		if r.Luhn && !checks(w) {
			delete(l, w)
		}
	}
	return l
}

// covered is what Cover is to tell, by each piece of x, told of its first byte and how many it has.
func covered(l []Rule, lambda int, x string) []bool {
	cover := make([]bool, len(x))
	for _, r := range l {
		fits := fitting(r, x)
		for from := range len(x) {
			for size := 1; size <= lambda && from+size <= len(x); size++ {
				if fits[x[from:from+size]] {
					copy(cover[from:], slices.Repeat([]bool{true}, size))
				}
			}
		}
	}
	return cover
}

// check holds Fits, Cover and Mask of rules and bytes against the chapter's words.
func check(t *testing.T, l []Rule, lambda int, m byte, x []byte) {
	t.Helper()
	want := covered(l, lambda, string(x))
	if got := Cover(l, lambda, x); !slices.Equal(got, want) {
		t.Fatalf("%v, lambda %d, %q: Cover tells %v, not %v", l, lambda, x, got, want)
	}
	y := Mask(l, lambda, m, x)
	if len(y) != len(x) {
		t.Fatalf("%v, lambda %d, %q: Mask tells %q", l, lambda, x, y)
	}
	for i, b := range y {
		if want[i] && b != m || !want[i] && b != x[i] {
			t.Fatalf("%v, lambda %d, %q: Mask by %q tells %q", l, lambda, x, m, y)
		}
	}
}

// P9.1, as are all up to TestMadeRules.
func TestFitsMadeRules(t *testing.T) {
	m := maker{rand.New(rand.NewPCG(9, 1))}
	for range 3000 {
		r := Rule{N: m.pattern(m.dice.IntN(6)), Luhn: m.dice.IntN(2) == 0}
		x := string(m.bytes(7))
		fits := fitting(r, x)
		for w := range pieces(x) {
			if Fits(r, []byte(w)) != fits[w] {
				t.Fatalf("%v, %q: not %v", r, w, fits[w])
			}
		}
	}
}

// All bytes of a few letters, with all lambdas.
func TestAllShortBytes(t *testing.T) {
	for _, c := range []struct{ letters, rules string }{
		{"abc", "ab"}, {"ab", "aba"}, {"ab", "a?"}, {"ab", "a{2,4}"}, {"abc", "ab bc"}, {"abc", "ab|b{3}|cabc"}, {"ab", "a(ba)?(bb)? b{3}"},
		{"018", `#\d{2}`}, {"18-", `#\d{2,4}`}, {"18-", `#(\d|-){1,5}`}, {"18b", `b{2} #\d(b?)\d`}, {"18a", `a?1? #\w{3,4}`}, {"19", `#\d{1,7} 9{3}`},
	} {
		l := rulesOf(t, c.rules)
		for _, x := range allOf(c.letters, 6) {
			for lambda := -1; lambda <= 7; lambda++ {
				check(t, l, lambda, '*', []byte(x))
			}
		}
	}
}

// allOf are all words over letters of at most so many bytes.
func allOf(letters string, size int) []string {
	l := []string{""}
	for at := 0; at < len(l); at++ {
		if len(l[at]) < size {
			for _, b := range letters {
				l = append(l, l[at]+string(b))
			}
		}
	}
	return l
}

func TestMadeRules(t *testing.T) {
	m := maker{rand.New(rand.NewPCG(9, 2))}
	some := 0
	for range 6000 {
		l, x := m.rules(4), m.bytes(m.dice.IntN(16))
		lambda := m.dice.IntN(10)
		check(t, l, lambda, byte(m.dice.IntN(256)), x)
		check(t, l, math.MaxInt, letters[m.dice.IntN(len(letters))], x)
		if cover := covered(l, lambda, string(x)); slices.Contains(cover, true) && slices.Contains(cover, false) {
			some++
		}
	}
	if some < 1000 {
		t.Error("too few of those that were made have bytes to be hidden, and others:", some)
	}
}

// P9.3, as is the next one: all that is covered of x is covered of y too, x standing at a place of y.
func wantNoLess(t *testing.T, name string, less, more []bool, at int) {
	t.Helper()
	for i, hidden := range less {
		if hidden && !more[at+i] {
			t.Fatalf("%s: byte %d of %v isn't covered of %v", name, i, less, more)
		}
	}
}

func TestMoreCoversNoLess(t *testing.T) {
	m := maker{rand.New(rand.NewPCG(9, 3))}
	for range 4000 {
		l, x, lambda := m.rules(3), m.bytes(m.dice.IntN(30)), m.dice.IntN(9)
		cover := Cover(l, lambda, x)
		name := fmt.Sprintf("%v, lambda %d, %q", l, lambda, x)
		for _, greater := range []int{lambda + 1, lambda + 5, 32, math.MaxInt} {
			wantNoLess(t, name, cover, Cover(l, greater, x), 0)
		}
		other := m.rules(3)
		wantNoLess(t, name, cover, Cover(append(slices.Clone(l), other...), lambda, x), 0)
		wantNoLess(t, name, cover, Cover(append(slices.Clone(other), l...), lambda, x), 0)
		ahead, behind := m.bytes(m.dice.IntN(9)), m.bytes(m.dice.IntN(9))
		wantNoLess(t, name, cover, Cover(l, lambda, slices.Concat(ahead, x, behind)), len(ahead))
	}
}

// The order of rules, and rules that are there twice, change nothing.
func TestRulesAreASet(t *testing.T) {
	m := maker{rand.New(rand.NewPCG(9, 4))}
	for range 1000 {
		l, x, lambda := m.rules(5), m.bytes(m.dice.IntN(30)), m.dice.IntN(9)
		cover := Cover(l, lambda, x)
		other := append(slices.Clone(l), l...)
		m.dice.Shuffle(len(other), func(i, k int) { other[i], other[k] = other[k], other[i] })
		if got := Cover(other, lambda, x); !slices.Equal(got, cover) {
			t.Fatalf("%v, lambda %d, %q: %v, but with the rules twice, in another order %v", l, lambda, x, cover, got)
		}
	}
}

func cloneOf(n api.Node) api.Node {
	kids := slices.Clone(n.Kids)
	for i := range kids {
		kids[i] = cloneOf(kids[i])
	}
	n.Kids = kids
	return n
}

// P9.2, as are all below: with bytes ahead of those that are handed in, and room behind them that isn't theirs.
func TestWhatIsHandedInStays(t *testing.T) {
	m := maker{rand.New(rand.NewPCG(9, 5))}
	for range 500 {
		room, l := m.bytes(20), m.rules(4)
		roomWas, were := slices.Clone(room), slices.Clone(l)
		for i := range were {
			were[i].N = cloneOf(were[i].N)
		}
		x := room[3:15]
		Mask(l, 6, '*', x)
		Cover(l, 6, x)
		for _, r := range l {
			Fits(r, x)
		}
		if !bytes.Equal(room, roomWas) {
			t.Fatalf("%q is changed: %q", roomWas, room)
		}
		if !reflect.DeepEqual(l, were) {
			t.Fatalf("%v is changed: %v", were, l)
		}
	}
}

func TestWhatIsToldIsNew(t *testing.T) {
	for _, rules := range []string{"", "a", "z", "a?", "ab"} {
		l := rulesOf(t, rules)
		room := []byte("xxabcxx")
		x := room[2:5]
		y, again := Mask(l, 4, '*', x), Mask(l, 4, '*', x)
		was := bytes.Clone(again)
		y = y[:cap(y)]
		for i := range y {
			y[i] = '!'
		}
		if string(room) != "xxabcxx" || !bytes.Equal(again, was) {
			t.Errorf("%q: by what Mask told %q is changed, or %q", rules, room, again)
		}
		copy(room, "!!!!!!!")
		if !bytes.Equal(again, was) {
			t.Errorf("%q: what Mask told changes with what was handed in: %q", rules, again)
		}

		x = []byte("abc")
		cover, other := Cover(l, 4, x), Cover(l, 4, x)
		wanted := slices.Clone(other)
		cover = cover[:cap(cover)]
		for i := range cover {
			cover[i] = !cover[i]
		}
		if !slices.Equal(other, wanted) || !slices.Equal(Cover(l, 4, x), wanted) {
			t.Errorf("%q: by what Cover told something is changed", rules)
		}
	}
}

// A call hangs on none ahead of it.
func TestWhatIsHandedInIsForgotten(t *testing.T) {
	l, x := rulesOf(t, `ab #\d{2}`), []byte("ab18")
	for range 3 {
		wantHidden(t, "as it was", l, 2, string(x), "****")
		wantHidden(t, "with another lambda", l, 1, string(x), "ab18")
		wantHidden(t, "with one rule", l[:1], 2, string(x), "**18")
	}
	l[0].N.Kids[1], x[3] = parse(t, "c"), '9'
	wantHidden(t, "changed", l, 2, string(x), "ab19")
	wantHidden(t, "changed", l, 2, "ac18", "****")
	l[1].Luhn = false
	wantHidden(t, "without the check", l, 2, string(x), "ab**")
	if Fits(l[0], []byte("ab")) || !Fits(l[0], []byte("ac")) || !Fits(l[1], x[2:]) {
		t.Error("Fits tells of rules as they were")
	}
}
