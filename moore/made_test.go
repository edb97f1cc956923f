package moore

import (
	"cmp"
	"fmt"
	"math/rand/v2"
	"reflect"
	"slices"
	"testing"

	"snaffle/api"
	"snaffle/classes"
	"snaffle/lang"
	"snaffle/nfa"
	"snaffle/set"
)

// under is a word under way, as the chapter tells it.
type under struct{ rule, place, bytes int }

// maker makes the machine as the chapter tells it, of one word under way and another.
type maker struct {
	l      []nfa.Nfa
	luhn   []bool
	lambda int
}

// step is the state that comes of a state by byte b.
func (k maker) step(state []under, b byte) []under {
	next := map[under]bool{}
	for _, u := range state {
		if u.bytes < k.lambda {
			for _, q := range k.l[u.rule].Follow[u.place] {
				if set.Has(k.l[u.rule].Sets[q], b) {
					next[under{u.rule, q, u.bytes + 1}] = true
				}
			}
		}
	}
	for i, a := range k.l {
		for _, q := range a.First {
			if set.Has(a.Sets[q], b) {
				next[under{i, q, 1}] = true
			}
		}
	}
	var l []under
	for u := range next {
		l = append(l, u)
	}
	slices.SortFunc(l, func(x, y under) int {
		return cmp.Or(cmp.Compare(x.rule, y.rule), cmp.Compare(x.place, y.place), cmp.Compare(x.bytes, y.bytes))
	})
	return l
}

func (k maker) out(state []under) api.Out {
	var o api.Out
	for _, u := range state {
		if !k.l[u.rule].Last[u.place] {
			continue
		}
		if k.luhn[u.rule] {
			o.Luhn |= 1 << u.bytes
		} else {
			o.Plain |= 1 << u.bytes
		}
	}
	return o
}

// machine makes it, but for one of more than most states.
func (k maker) machine(most int) (Machine, bool) {
	var m Machine
	var sets []api.Set
	for _, a := range k.l {
		sets = append(sets, a.Sets...)
	}
	m.Class, m.Classes = classes.Of(sets)
	states := [][]under{nil}
	numbers := map[string]int{fmt.Sprint(states[0]): 0}
	for i := 0; i < len(states); i++ {
		var row []int
		for c := range m.Classes {
			next := k.step(states[i], byte(slices.Index(m.Class[:], c)))
			name := fmt.Sprint(next)
			if _, ok := numbers[name]; !ok {
				if len(states) == most {
					return Machine{}, false
				}
				numbers[name] = len(states)
				states = append(states, next)
			}
			row = append(row, numbers[name])
		}
		m.Next, m.Out = append(m.Next, row), append(m.Out, k.out(states[i]))
	}
	return m, true
}

// ruleset is rules, by their patterns.
type ruleset struct {
	nodes []api.Node
	maker
}

func rulesOf(t *testing.T, nodes []api.Node, luhn []bool, lambda int) ruleset {
	t.Helper()
	s := ruleset{nodes: nodes, maker: maker{luhn: luhn, lambda: lambda}}
	for _, n := range nodes {
		s.l = append(s.l, laid(t, n))
	}
	return s
}

func (s ruleset) String() string {
	return fmt.Sprintf("%v, luhn %v, lambda %d", s.nodes, s.luhn, s.lambda)
}

// words is what is to be told of w, by layer 3.
func (s ruleset) words(w []byte) api.Out {
	var o api.Out
	for i, n := range s.nodes {
		for size := 1; size <= min(len(w), s.lambda); size++ {
			if !lang.Has(n, w[len(w)-size:]) {
				continue
			}
			if s.luhn[i] {
				o.Luhn |= 1 << size
			} else {
				o.Plain |= 1 << size
			}
		}
	}
	return o
}

// wantMade holds what Build tells against the chapter's words; it tells whether there is a machine of at most so many states.
func wantMade(t *testing.T, s ruleset, most int) (Machine, bool) {
	t.Helper()
	want, ok := s.machine(most)
	m, err := Build(s.l, s.luhn, s.lambda, most)
	if !ok {
		wantError(t, s.String(), m, err, api.ErrBig)
		return Machine{}, false
	}
	if err != nil || !reflect.DeepEqual(m, want) {
		t.Fatalf("%v: %v, %s, not %s", s, err, shown(m), shown(want))
	}
	if n := len(m.Next); n > 1 {
		fewer, err := Build(s.l, s.luhn, s.lambda, n-1)
		wantError(t, s.String(), fewer, err, api.ErrBig)
	}
	return m, true
}

func wantWords(t *testing.T, s ruleset, m Machine, words [][]byte) {
	t.Helper()
	for _, w := range words {
		if got, want := Run(m, w), s.words(w); got != want {
			t.Fatalf("%v, %q: %s, not %s", s, w, told(got), told(want))
		}
	}
}

func letter(b byte) api.Node { return api.Node{Op: api.One, Set: set.Range(b, b)} }

func of(op int, kids ...api.Node) api.Node { return api.Node{Op: op, Kids: kids} }

func rep(low, high int, kid api.Node) api.Node {
	return api.Node{Op: api.Rep, Min: low, Max: high, Kids: []api.Node{kid}}
}

var ones = []api.Node{letter('a'), letter('b'), {Op: api.One, Set: set.Of([]byte("ab"))}, {Op: api.One}}

// grown are all patterns of one node more than l, or of two of l.
func grown(l []api.Node) []api.Node {
	more := slices.Clone(l)
	for _, n := range l {
		for _, times := range [][2]int{{0, 1}, {2, 2}, {0, 2}, {1, 3}} {
			more = append(more, rep(times[0], times[1], n))
		}
		for _, k := range l {
			more = append(more, of(api.Cat, n, k), of(api.Alt, n, k))
		}
	}
	return more
}

// wordsUpTo are all words of these bytes, of at most so many.
func wordsUpTo(most int, letters string) [][]byte {
	l := [][]byte{nil}
	for at := 0; len(l[at]) < most; at++ {
		for _, b := range []byte(letters) {
			l = append(l, append(slices.Clone(l[at]), b))
		}
	}
	return l
}

// P6.1, P6.3: each two small patterns, with the check and without, and all short words.
func TestAllSmallRules(t *testing.T) {
	words := wordsUpTo(5, "abc")
	small := grown(ones)
	for i, n := range small {
		for j, k := range small {
			s := rulesOf(t, []api.Node{n, k}, []bool{i%2 == 1, j%3 == 1}, 1+(i+j)%4)
			if m, ok := wantMade(t, s, 1000); ok {
				wantWords(t, s, m, words)
			} else {
				t.Fatalf("%v: too many states", s)
			}
		}
	}
}

// picked makes a pattern of some of l, by dice.
func picked(dice *rand.Rand, l []api.Node, times int) api.Node {
	one := func() api.Node { return l[dice.IntN(len(l))] }
	switch dice.IntN(4) {
	case 0:
		return of(api.Cat, one(), one(), one())
	case 1:
		return of(api.Alt, one(), one(), one())
	case 2:
		return of(api.Cat, one(), rep(0, 1, one()), one(), rep(0, 2, one()))
	}
	high := 1 + dice.IntN(times)
	return rep(dice.IntN(high+1), high, one())
}

// few tells whether n has at most so many places.
func few(n api.Node, most int) bool {
	a, err := nfa.Build(n)
	return err == nil && len(a.Sets) <= most
}

func pickedRules(t *testing.T, dice *rand.Rand, l []api.Node) ruleset {
	t.Helper()
	nodes, luhn := []api.Node{}, []bool{}
	for range dice.IntN(5) {
		nodes, luhn = append(nodes, l[dice.IntN(len(l))]), append(luhn, dice.IntN(2) == 0)
	}
	if len(nodes) > 0 && dice.IntN(3) == 0 {
		again := dice.IntN(len(nodes))
		nodes, luhn = append(nodes, nodes[again]), append(luhn, dice.IntN(2) == 0)
	}
	return rulesOf(t, nodes, luhn, 1+dice.IntN([]int{4, 12, 32}[dice.IntN(3)]))
}

// pickedWord makes a word of the bytes that the rules tell apart, and of some others.
func pickedWord(dice *rand.Rand, m Machine, size int) []byte {
	var w []byte
	for range size {
		c := dice.IntN(m.Classes)
		w = append(w, byte(slices.Index(m.Class[:], c)))
		if dice.IntN(8) == 0 {
			w[len(w)-1] = byte(dice.IntN(256))
		}
	}
	return w
}

// P6.1, P6.3: made rules, and made words, long ones too.
func TestMadeRules(t *testing.T) {
	dice := rand.New(rand.NewPCG(6, 3))
	l := append(grown(ones), letter('c'), letter(0), letter(255),
		api.Node{Op: api.One, Set: set.Range('a', 'z')}, api.Node{Op: api.One, Set: set.Not(set.Range(10, 10))})
	for range 2000 {
		if n := picked(dice, l, 6); few(n, 24) {
			l = append(l, n)
		}
	}
	big, most := 0, 0
	for range 1500 {
		s := pickedRules(t, dice, l)
		m, ok := wantMade(t, s, 300)
		if !ok {
			big++
			continue
		}
		most = max(most, len(m.Next))
		for range 10 {
			wantWords(t, s, m, [][]byte{pickedWord(dice, m, dice.IntN(12)), pickedWord(dice, m, dice.IntN(60))})
		}
	}
	if big < 20 || most < 150 {
		t.Errorf("of too few kinds: %d are too big, the largest other one has %d states", big, most)
	}
}

// P6.3: what is told of a word hangs on its last lambda bytes alone.
func TestTheLastBytesTellAll(t *testing.T) {
	dice := rand.New(rand.NewPCG(6, 4))
	for _, texts := range [][]string{{"a{1,3}", "#[ab]"}, {"(ab?){1,4}", "#ba|a?b{2}", "[^a]{2}"}, {"[ab].{5}"}} {
		l, luhn := written(t, texts...)
		for _, lambda := range []int{1, 2, 5, 32} {
			m, err := Build(l, luhn, lambda, 1000)
			if err != nil {
				t.Fatal(texts, err)
			}
			for range 300 {
				w := pickedWord(dice, m, lambda)
				if got, want := Run(m, slices.Concat(pickedWord(dice, m, dice.IntN(50)), w)), Run(m, w); got != want {
					t.Fatalf("%q, lambda %d, behind other bytes %q: %s, not %s", texts, lambda, w, told(got), told(want))
				}
			}
		}
	}
}
