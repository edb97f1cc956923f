package nfa

import (
	"math/rand/v2"
	"slices"
	"strings"
	"testing"

	"snaffle/api"
	"snaffle/lang"
	"snaffle/set"
)

// nought is the op of nothing.
const nought = 0

// laid is a pattern laid out, as the chapter tells it.
type laid struct {
	op    int // nought, One, Cat or Alt
	place int // of a One
	kids  []*laid
}

// laidOut lays n out; sets are those of all its places by now.
func laidOut(n api.Node, sets *[]api.Set) *laid {
	switch n.Op {
	case api.One:
		*sets = append(*sets, n.Set)
		return &laid{op: api.One, place: len(*sets) - 1}
	case api.Rep:
		l := &laid{op: api.Cat}
		for range n.Min {
			l.kids = append(l.kids, laidOut(n.Kids[0], sets))
		}
		if n.Max > n.Min {
			l.kids = append(l.kids, leftOut(n.Kids[0], n.Max-n.Min, sets))
		}
		return l
	}
	l := &laid{op: n.Op}
	for _, kid := range n.Kids {
		l.kids = append(l.kids, laidOut(kid, sets))
	}
	return l
}

// leftOut is k (k (k or nothing) or nothing) or nothing, so deep.
func leftOut(k api.Node, deep int, sets *[]api.Set) *laid {
	within := laidOut(k, sets)
	if deep > 1 {
		within = &laid{op: api.Cat, kids: []*laid{within, leftOut(k, deep-1, sets)}}
	}
	return &laid{op: api.Alt, kids: []*laid{within, {op: nought}}}
}

func (l *laid) empty() bool {
	switch l.op {
	case api.Cat:
		return !slices.ContainsFunc(l.kids, func(k *laid) bool { return !k.empty() })
	case api.Alt:
		return slices.ContainsFunc(l.kids, (*laid).empty)
	}
	return l.op == nought
}

// upTo are what each tells of all kids, in this order, up to, and with, the first that isn't empty.
func upTo(kids []*laid, each func(*laid) []int) []int {
	var l []int
	for _, k := range kids {
		l = append(l, each(k)...)
		if !k.empty() {
			break
		}
	}
	return l
}

func (l *laid) first() []int {
	return l.ends((*laid).first, func(kids []*laid) []*laid { return kids })
}

func (l *laid) last() []int {
	return l.ends((*laid).last, func(kids []*laid) []*laid {
		kids = slices.Clone(kids)
		slices.Reverse(kids)
		return kids
	})
}

func (l *laid) ends(each func(*laid) []int, order func([]*laid) []*laid) []int {
	switch l.op {
	case api.One:
		return []int{l.place}
	case api.Cat:
		return upTo(order(l.kids), each)
	}
	var all []int
	for _, k := range l.kids {
		all = append(all, each(k)...)
	}
	return all
}

// follow adds what l tells of it, of all places.
func (l *laid) follow(lists [][]int) {
	for i, k := range l.kids {
		k.follow(lists)
		if l.op != api.Cat {
			continue
		}
		for _, p := range k.last() {
			lists[p] = append(lists[p], upTo(l.kids[i+1:], (*laid).first)...)
		}
	}
}

// told makes of n what Build should tell.
func told(n api.Node) Nfa {
	var a Nfa
	l := laidOut(n, &a.Sets)
	a.First, a.Empty = rising(l.first()), l.empty()
	a.Last, a.Follow = make([]bool, len(a.Sets)), make([][]int, len(a.Sets))
	for _, p := range l.last() {
		a.Last[p] = true
	}
	l.follow(a.Follow)
	for p := range a.Follow {
		a.Follow[p] = rising(a.Follow[p])
	}
	return a
}

func rising(l []int) []int {
	slices.Sort(l)
	return slices.Compact(l)
}

// size tells how many places n has, however many they are.
func size(n api.Node) int {
	if n.Op == api.One {
		return 1
	}
	sum := 0
	for _, kid := range n.Kids {
		sum += size(kid)
	}
	if n.Op == api.Rep {
		sum *= n.Max
	}
	return sum
}

func wantTold(t *testing.T, n api.Node) Nfa {
	t.Helper()
	if size(n) > 256 {
		wantLarge(t, "what is made", n)
		return Nfa{}
	}
	a, want := build(t, n), told(n)
	if shown(a) != shown(want) {
		t.Fatalf("Build(%v): %s, not %s", n, shown(a), shown(want))
	}
	return a
}

// goes tries all ways that w may go, one by one.
func goes(a Nfa, w string) bool {
	if w == "" {
		return a.Empty
	}
	return goesFrom(a, a.First, w)
}

func goesFrom(a Nfa, places []int, w string) bool {
	for _, p := range places {
		if !set.Has(a.Sets[p], w[0]) {
			continue
		}
		if len(w) == 1 && a.Last[p] || len(w) > 1 && goesFrom(a, a.Follow[p], w[1:]) {
			return true
		}
	}
	return false
}

// wordsUpTo are all words of these bytes, of at most so many.
func wordsUpTo(most int, letters string) []string {
	l := []string{""}
	for at := 0; len(l[at]) < most; at++ {
		for _, b := range letters {
			l = append(l, l[at]+string(b))
		}
	}
	return l
}

func wantWords(t *testing.T, n api.Node, a Nfa, words []string) {
	t.Helper()
	for _, w := range words {
		got := Has(a, []byte(w))
		if got != lang.Has(n, []byte(w)) || got != goes(a, w) {
			t.Fatalf("Has(%s, %q) of %v: %v", shown(a), w, n, got)
		}
	}
}

var ones = []api.Node{letter('a'), letter('b'), {Op: api.One, Set: set.Of([]byte("ab"))}}

// grown are all patterns of one node more than l, or of two of l.
func grown(l []api.Node) []api.Node {
	more := slices.Clone(l)
	for _, n := range l {
		for _, times := range [][2]int{{0, 1}, {1, 1}, {2, 2}, {0, 2}, {1, 2}, {0, 3}, {1, 3}} {
			more = append(more, rep(times[0], times[1], n))
		}
		for _, k := range l {
			more = append(more, of(api.Cat, n, k), of(api.Alt, n, k))
		}
	}
	return more
}

// P4.1, P4.3: all small patterns, and all short words.
func TestAllSmallPatterns(t *testing.T) {
	words := wordsUpTo(5, "ab")
	for _, n := range grown(grown(ones)) {
		wantWords(t, n, wantTold(t, n), words)
	}
}

// picked makes a pattern of some of l, by dice.
func picked(dice *rand.Rand, l []api.Node, times int) api.Node {
	one := func() api.Node { return l[dice.IntN(len(l))] }
	switch dice.IntN(4) {
	case 0:
		return of(api.Cat, one(), one(), one())
	case 1:
		return of(api.Alt, one(), one(), one())
	case 2:
		return of(api.Cat, one(), rep(0, 1, one()), one(), rep(0, 2, one()))
	}
	high := 1 + dice.IntN(times)
	return rep(dice.IntN(high+1), high, one())
}

// P4.1, P4.3: patterns of up to 256 places, and of more.
func TestMadePatterns(t *testing.T) {
	dice := rand.New(rand.NewPCG(4, 11))
	words := wordsUpTo(4, "abc")
	l := append(grown(ones), letter('c'))
	large, most := 0, 0
	for i := range 6000 {
		n := picked(dice, l, 6)
		if i%4 == 0 {
			n = picked(dice, []api.Node{n, l[dice.IntN(len(l))]}, 32)
		}
		l = append(l, n)
		a := wantTold(t, n)
		if len(a.Sets) == 0 {
			// One that is too large would make all that are made of it so.
			large, l = large+1, l[:len(l)-1]
			continue
		}
		most = max(most, len(a.Sets))
		// Of many places there are too many ways to try them all.
		if len(a.Sets) < 32 {
			wantWords(t, n, a, words)
		}
	}
	if large < 100 || most < 250 {
		t.Errorf("of too few kinds: %d are too large, the largest other one has %d places", large, most)
	}
}

// P4.3: long words.
func TestMadeLengths(t *testing.T) {
	dice := rand.New(rand.NewPCG(8, 2))
	for range 300 {
		l := []api.Node{letter('a')}
		for range 12 {
			if n := picked(dice, l, 5); size(n) <= 256 {
				l = append(l, n)
			}
		}
		n := l[len(l)-1]
		a := wantTold(t, n)
		for length := range len(a.Sets) + 2 {
			w := []byte(strings.Repeat("a", length))
			if Has(a, w) != lang.Has(n, w) {
				t.Fatalf("Has(%v, %d times a) is %v", n, length, Has(a, w))
			}
		}
	}
}
