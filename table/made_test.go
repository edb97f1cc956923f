package table

import (
	"fmt"
	"math/rand/v2"
	"reflect"
	"slices"
	"strings"
	"testing"

	"snaffle/api"
	"snaffle/lang"
	"snaffle/mask"
	"snaffle/moore"
	"snaffle/nfa"
)

// setsOf are all sets of a pattern, in order.
func setsOf(n api.Node) []api.Set {
	if n.Op == api.One {
		return []api.Set{n.Set}
	}
	var l []api.Set
	for _, k := range n.Kids {
		l = append(l, setsOf(k)...)
	}
	return l
}

// classesOf tells the classes by layer 5's words, and the first byte of each.
func classesOf(l []mask.Rule) ([256]int, []byte) {
	var class [256]int
	var first []byte
	numbers := map[string]int{}
	for b := range 256 {
		var has []bool
		for _, r := range l {
			for _, s := range setsOf(r.N) {
				has = append(has, s[b/64]>>(b%64)&1 == 1)
			}
		}
		name := fmt.Sprint(has)
		if _, ok := numbers[name]; !ok {
			numbers[name] = len(numbers)
			first = append(first, byte(b))
		}
		class[b] = numbers[name]
	}
	return class, first
}

// words tells what is to be told of w, by layer 3: P16.3.
func words(l []mask.Rule, lambda int, w []byte) api.Out {
	var o api.Out
	for _, r := range l {
		for size := 1; size <= min(len(w), lambda); size++ {
			if !lang.Has(r.N, w[len(w)-size:]) {
				continue
			}
			if r.Luhn {
				o.Luhn |= 1 << size
			} else {
				o.Plain |= 1 << size
			}
		}
	}
	return o
}

// recalling is a machine whose states are all words of up to lambda bytes: it recalls the last ones, and knows no more of
// rules than what layer 3 says of these words.
func recalling(l []mask.Rule, lambda int) moore.Machine {
	class, first := classesOf(l)
	m := moore.Machine{Class: class, Classes: len(first)}
	met := []string{""}
	numbers := map[string]int{"": 0}
	for i := 0; i < len(met); i++ {
		var row []int
		for _, b := range first {
			next := met[i] + string([]byte{b})
			next = next[max(0, len(next)-lambda):]
			if _, ok := numbers[next]; !ok {
				numbers[next] = len(met)
				met = append(met, next)
			}
			row = append(row, numbers[next])
		}
		m.Next, m.Out = append(m.Next, row), append(m.Out, words(l, lambda, []byte(met[i])))
	}
	return m
}

// groups parts states by what they tell, then by where they lead, till that parts none any more.
func groups(m moore.Machine) []int {
	group := make([]int, len(m.Next))
	for n := 1; ; {
		numbers := map[string]int{}
		parted := make([]int, len(group))
		for i, row := range m.Next {
			name := fmt.Sprint(m.Out[i])
			for _, next := range row {
				name += fmt.Sprint(" ", group[next])
			}
			if _, ok := numbers[name]; !ok {
				numbers[name] = len(numbers)
			}
			parted[i] = numbers[name]
		}
		group = parted
		if len(numbers) == n {
			return group
		}
		n = len(numbers)
	}
}

// counted makes one state of each group, counted as they are met.
func counted(m moore.Machine) moore.Machine {
	group := groups(m)
	c := moore.Machine{Class: m.Class, Classes: m.Classes}
	numbers := map[int]int{group[0]: 0}
	met := []int{0}
	for i := 0; i < len(met); i++ {
		var row []int
		for _, next := range m.Next[met[i]] {
			if _, ok := numbers[group[next]]; !ok {
				numbers[group[next]] = len(met)
				met = append(met, next)
			}
			row = append(row, numbers[group[next]])
		}
		c.Next, c.Out = append(c.Next, row), append(c.Out, m.Out[met[i]])
	}
	return c
}

// ahead tells the machine by layers 4 and 6 alone, of which there may be more states.
func ahead(t *testing.T, l []mask.Rule, lambda, most int) (moore.Machine, error) {
	t.Helper()
	var places []nfa.Nfa
	var luhn []bool
	for _, r := range l {
		a, err := nfa.Build(r.N)
		if err != nil {
			t.Fatal(err)
		}
		places, luhn = append(places, a), append(luhn, r.Luhn)
	}
	return moore.Build(places, luhn, lambda, most)
}

// wantMade holds what Build tells against the machine that recalls, and tells how many states there were ahead.
func wantMade(t *testing.T, name string, l []mask.Rule, lambda int) (moore.Machine, int) {
	t.Helper()
	name = fmt.Sprintf("%s, lambda %d", name, lambda)
	made, err := ahead(t, l, lambda, 1000)
	if err != nil {
		t.Fatalf("%s: %v", name, err)
	}
	states := len(made.Next)
	m, err := Build(l, lambda, states)
	want := counted(recalling(l, lambda))
	if err != nil || !reflect.DeepEqual(m, want) {
		t.Fatalf("%s: %v, %s, not %s", name, err, shown(m), shown(want))
	}
	if again, err := Build(l, lambda, 1000); err != nil || !reflect.DeepEqual(again, want) {
		t.Fatalf("%s, most 1000: %v, %s, not %s", name, err, shown(again), shown(want))
	}
	if states > 1 {
		fewer, err := Build(l, lambda, states-1)
		wantError(t, name, fewer, err, api.ErrBig)
	}
	return m, states
}

var parts = []string{"a", "b", "[ab]", "a?", "b?", "(ab|b)", "(a|b|ba){1,3}", "(ab|bb)", "a{2,3}", "[^a]?", "(a|b)", "(a?b?)"}

// texts throws rules of these parts, each with the check, or not.
func texts(dice *rand.Rand, many, long int) []string {
	var l []string
	for range many {
		text := strings.Repeat("#", dice.IntN(2))
		for range 1 + dice.IntN(long) {
			text += parts[dice.IntN(len(parts))]
		}
		l = append(l, text)
	}
	return l
}

// P16.1, P16.3: each one of the parts, each two of them, with the check and without, at small lambdas.
func TestAllSmallRules(t *testing.T) {
	for _, x := range parts {
		for lambda := 1; lambda <= 4; lambda++ {
			wantMade(t, x, written(t, x), lambda)
			wantMade(t, "#"+x, written(t, "#"+x), lambda)
			for _, y := range parts {
				for _, l := range [][]string{{x + y}, {x, y}, {x, "#" + y}, {"#" + x, "#" + y}} {
					wantMade(t, strings.Join(l, " "), written(t, l...), lambda)
				}
			}
		}
	}
}

// P16.1, P16.3: made rules.
func TestMadeRules(t *testing.T) {
	dice := rand.New(rand.NewPCG(16, 1))
	fewer, same, most := 0, 0, 0
	for range 1500 {
		l := texts(dice, dice.IntN(5), 4)
		m, states := wantMade(t, strings.Join(l, " "), written(t, l...), 1+dice.IntN(5))
		most = max(most, len(m.Next))
		if len(m.Next) < states {
			fewer++
		} else {
			same++
		}
	}
	if fewer < 500 || same < 100 || most < 15 {
		t.Errorf("of too few kinds: %d have fewer states than ahead, %d as many; the largest one has %d", fewer, same, most)
	}
}

// wantLeast wants that each state can be come to, that they are counted as they are met, and that no two are alike.
func wantLeast(t *testing.T, name string, m moore.Machine) {
	t.Helper()
	met := 1
	for i, row := range m.Next {
		if i >= met {
			t.Fatalf("%s: state %d isn't met ahead of its turn: %s", name, i, shown(m))
		}
		for _, next := range row {
			if next > met {
				t.Fatalf("%s: state %d is counted ahead of others: %s", name, next, shown(m))
			}
			if next == met {
				met++
			}
		}
	}
	if apart := slices.Max(groups(m)) + 1; apart != len(m.Next) {
		t.Fatalf("%s: %d states, of which but %d aren't alike", name, len(m.Next), apart)
	}
}

// thrown makes a word of the bytes that rules tell apart, and of some others.
func thrown(dice *rand.Rand, first []byte, size int) []byte {
	var w []byte
	for range size {
		w = append(w, first[dice.IntN(len(first))])
		if dice.IntN(12) == 0 {
			w[len(w)-1] = byte(dice.IntN(256))
		}
	}
	return w
}

// P16.1, P16.3: made rules with the greater lambdas, and long words.
func TestGreaterLambdas(t *testing.T) {
	dice := rand.New(rand.NewPCG(16, 2))
	big, told, most := 0, 0, 0
	for range 400 {
		texts := texts(dice, 1+dice.IntN(4), 7)
		l, lambda := written(t, texts...), 1+dice.IntN(32)
		name := fmt.Sprintf("%s, lambda %d", strings.Join(texts, " "), lambda)
		m, err := Build(l, lambda, 500)
		if _, errAhead := ahead(t, l, lambda, 500); errAhead != nil {
			wantError(t, name, m, err, api.ErrBig)
			big++
			continue
		}
		class, first := classesOf(l)
		if err != nil || m.Class != class || m.Classes != len(first) {
			t.Fatalf("%s: %v, %s", name, err, classed(m))
		}
		wantLeast(t, name, m)
		most = max(most, len(m.Next))
		for range 40 {
			w := thrown(dice, first, dice.IntN(60))
			got, want := moore.Run(m, w), words(l, lambda, w)
			if got != want {
				t.Fatalf("%s, %q: %v, not %v", name, w, got, want)
			}
			if got != (api.Out{}) {
				told++
			}
		}
	}
	if big < 5 || told < 2000 || most < 100 {
		t.Errorf("of too few kinds: %d are too big, %d words end in one of a rule, the largest machine has %d states", big, told, most)
	}
}

// P16.3: secrets as they are written, and bytes all around them.
func TestSecrets(t *testing.T) {
	dice := rand.New(rand.NewPCG(16, 3))
	l := written(t, `#\d{13,16}`, `key-\w{4}`, `#\d{4}(-\d{4}){3}`, `[A-Z]{2}\d{2}( \d{4}){2}`)
	m, err := Build(l, 32, 1000)
	if err != nil {
		t.Fatal(err)
	}
	wantLeast(t, "secrets", m)
	bits := 0
	for range 500 {
		var w []byte
		for len(w) < 80 {
			secret := []string{"4111111111111111", "key-a1_B", "4111-1111-1111-1111", "DE12 3456 7890", "key-", "-", " ", "x"}[dice.IntN(8)]
			w = append(w, secret[:1+dice.IntN(len(secret))]...)
		}
		for end := range w {
			got, want := moore.Run(m, w[:end+1]), words(l, 32, w[:end+1])
			if got != want {
				t.Fatalf("%q: %v, not %v", w[:end+1], got, want)
			}
			if got.Plain != 0 || got.Luhn != 0 {
				bits++
			}
		}
	}
	if bits < 1000 {
		t.Errorf("only %d words end there", bits)
	}
}

// P16.3: the last lambda bytes tell all.
func TestTheLastBytesTellAll(t *testing.T) {
	dice := rand.New(rand.NewPCG(16, 4))
	for _, texts := range [][]string{{"a{1,3}", "#[ab]"}, {"(ab?){1,4}", "#ba|a?b{2}", "[^a]{2}"}, {"[ab].{5}"}, {"ac|bc", "#(a|b){3}"}} {
		l := written(t, texts...)
		_, first := classesOf(l)
		for _, lambda := range []int{1, 2, 5, 32} {
			m := build(t, lambda, texts...)
			for range 300 {
				w := thrown(dice, first, lambda)
				if got, want := moore.Run(m, slices.Concat(thrown(dice, first, dice.IntN(50)), w)), moore.Run(m, w); got != want {
					t.Fatalf("%q, lambda %d, behind other bytes %q: %v, not %v", texts, lambda, w, got, want)
				}
			}
		}
	}
}

// P1: the most rules of a text, seven of them of the most places, with all lengths at all of these.
func TestManyWordsUnderWay(t *testing.T) {
	texts := []string{`#\d{4}(-\d{4}){3}`}
	for range 7 {
		texts = append(texts, "([\x00-\xff]{1,32}){8}")
	}
	l := written(t, texts...)
	m := build(t, 32, texts...)
	wantLeast(t, "many", m)
	for _, c := range []struct {
		word, want string
	}{
		{"", ""}, {"1234-56", ""}, {"1234-567", "+8"}, {"1111-1111-1111-1111", "+8,9,10,11,12,13,14,15,16,17,18,19#19"},
		{strings.Repeat("x", 40) + "1111-1111-1111-1111", "+8,9,10,11,12,13,14,15,16,17,18,19,20,21,22,23,24,25,26,27,28,29,30,31,32#19"},
		{strings.Repeat("x", 31), "+8,9,10,11,12,13,14,15,16,17,18,19,20,21,22,23,24,25,26,27,28,29,30,31"},
	} {
		w := []byte(c.word)
		if got := moore.Run(m, w); told(got) != c.want || got != words(l, 32, w) {
			t.Errorf("%q: %s, not %s", w, told(got), c.want)
		}
	}
}
