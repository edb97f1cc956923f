package least

import (
	"math/rand/v2"
	"reflect"
	"strings"
	"testing"

	"snaffle/api"
	"snaffle/moore"
)

// likeness tells of each two states whether they are alike, as the chapter tells it: whether no run of classes leads from
// both to states that tell different things.
func likeness(m moore.Machine) [][]bool {
	alike := make([][]bool, len(m.Next))
	for i := range alike {
		alike[i] = make([]bool, len(m.Next))
		for j := range alike[i] {
			alike[i][j] = !comeApart(m, i, j)
		}
	}
	return alike
}

func comeApart(m moore.Machine, i, j int) bool {
	pairs := [][2]int{{i, j}}
	met := map[[2]int]bool{{i, j}: true}
	for k := 0; k < len(pairs); k++ {
		a, b := pairs[k][0], pairs[k][1]
		if m.Out[a] != m.Out[b] {
			return true
		}
		for c := range m.Classes {
			next := [2]int{m.Next[a][c], m.Next[b][c]}
			if !met[next] {
				met[next] = true
				pairs = append(pairs, next)
			}
		}
	}
	return false
}

// byWords makes the least machine by the chapter's words.
func byWords(m moore.Machine) moore.Machine {
	alike := likeness(m)
	l := moore.Machine{Class: m.Class, Classes: m.Classes}
	met := []int{0}
	number := func(state int) int {
		for i, other := range met {
			if alike[state][other] {
				return i
			}
		}
		met = append(met, state)
		return len(met) - 1
	}
	for i := 0; i < len(met); i++ {
		var row []int
		for c := range m.Classes {
			row = append(row, number(m.Next[met[i]][c]))
		}
		l.Next, l.Out = append(l.Next, row), append(l.Out, m.Out[met[i]])
	}
	return l
}

// wantByWords holds what Least tells against the chapter's words: P7.1, and P7.3, but for the words.
func wantByWords(t *testing.T, m moore.Machine) moore.Machine {
	t.Helper()
	was := clone(m)
	got := Least(m)
	if want := byWords(m); !reflect.DeepEqual(got, want) {
		t.Fatalf("%s: %s, not %s", shown(m), shown(got), shown(want))
	}
	if !reflect.DeepEqual(m, was) {
		t.Fatalf("%s is changed: %s", shown(was), shown(m))
	}
	for i, row := range likeness(got) {
		for j, alike := range row {
			if alike != (i == j) {
				t.Fatalf("%s: %s, whose states %d and %d are alike", shown(m), shown(got), i, j)
			}
		}
	}
	if again := Least(got); !reflect.DeepEqual(again, got) {
		t.Fatalf("%s: %s, but done again %s", shown(m), shown(got), shown(again))
	}
	return got
}

// wantSameWords wants that both tell the same of each word up to so many bytes: P7.3.
func wantSameWords(t *testing.T, m, least moore.Machine, w []byte, most int) {
	t.Helper()
	if got, want := moore.Run(least, w), moore.Run(m, w); got != want {
		t.Fatalf("%s: %s tells %v of %v, not %v", shown(m), shown(least), got, w, want)
	}
	if most == 0 {
		return
	}
	for b := range m.Classes {
		wantSameWords(t, m, least, append(w[:len(w):len(w)], byte(b)), most-1)
	}
}

// each calls yield with all lists of n numbers below size.
func each(n, size int, yield func([]int)) {
	l := make([]int, n)
	for {
		yield(l)
		i := 0
		for i < n && l[i] == size-1 {
			l[i] = 0
			i++
		}
		if i == n {
			return
		}
		l[i]++
	}
}

var outs = []api.Out{{}, {Plain: 2}, {Luhn: 2}}

// P7.1, P7.3: all machines of so few states and classes.
func TestAllSmallMachines(t *testing.T) {
	for _, c := range []struct{ states, classes, outs int }{
		{1, 1, 3}, {1, 3, 3}, {2, 1, 3}, {2, 2, 3}, {2, 3, 3}, {3, 1, 3}, {3, 2, 3}, {4, 1, 3}, {5, 1, 2},
	} {
		m := moore.Machine{Classes: c.classes, Next: make([][]int, c.states), Out: make([]api.Out, c.states)}
		for b := range m.Class {
			m.Class[b] = b % c.classes
		}
		each(c.states*c.classes, c.states, func(next []int) {
			for i := range m.Next {
				m.Next[i] = next[i*c.classes : (i+1)*c.classes]
			}
			each(c.states, c.outs, func(told []int) {
				for i, o := range told {
					m.Out[i] = outs[o]
				}
				if got, want := Least(m), byWords(m); !reflect.DeepEqual(got, want) {
					t.Fatalf("%s: %s, not %s", shown(m), shown(got), shown(want))
				}
			})
		})
	}
}

// picked makes a machine by dice: of each state, what it tells is one of few.
func picked(dice *rand.Rand, states, classes, few int) moore.Machine {
	m := moore.Machine{Classes: classes}
	for range states {
		var row []int
		for range classes {
			row = append(row, dice.IntN(states))
		}
		m.Next = append(m.Next, row)
		m.Out = append(m.Out, api.Out{Plain: uint64(dice.IntN(few)), Luhn: uint64(dice.IntN(few)) << 40})
	}
	for b := range m.Class {
		m.Class[b] = dice.IntN(classes)
	}
	// Each class has a byte, and the first bytes have the first classes, so that words are easily made.
	for c := range classes {
		m.Class[c] = c
	}
	return m
}

// spread makes a machine of more states, each of which is alike to one of m's.
func spread(dice *rand.Rand, m moore.Machine, states int) moore.Machine {
	from := make([]int, states)
	for i := range from {
		from[i] = i
		if i >= len(m.Next) {
			from[i] = dice.IntN(len(m.Next))
		}
	}
	dice.Shuffle(states, func(i, j int) { from[i], from[j] = from[j], from[i] })
	copies := make([][]int, len(m.Next))
	for i, state := range from {
		copies[state] = append(copies[state], i)
	}
	more := moore.Machine{Class: m.Class, Classes: m.Classes}
	for _, state := range from {
		var row []int
		for _, next := range m.Next[state] {
			row = append(row, copies[next][dice.IntN(len(copies[next]))])
		}
		more.Next, more.Out = append(more.Next, row), append(more.Out, m.Out[state])
	}
	return more
}

// P7.1, P7.3: made machines, and those that are spread.
func TestMadeMachines(t *testing.T) {
	dice := rand.New(rand.NewPCG(7, 3))
	fewer, same, most := 0, 0, 0
	for range 800 {
		m := picked(dice, 1+dice.IntN(12), 1+dice.IntN(4), 1+dice.IntN(3))
		wantSameWords(t, m, wantByWords(t, m), nil, 3)
		m = spread(dice, m, len(m.Next)+dice.IntN(20))
		got := wantByWords(t, m)
		wantSameWords(t, m, got, nil, 3)
		most = max(most, len(got.Next))
		if len(got.Next) < len(m.Next) {
			fewer++
		} else {
			same++
		}
	}
	if fewer < 300 || same < 10 || most < 10 {
		t.Errorf("of too few kinds: %d have fewer states then, %d as many; the largest one has %d", fewer, same, most)
	}
}

// P7.1, P7.3: machines that hang together so that states come apart late, one behind the other.
func TestMadeChains(t *testing.T) {
	dice := rand.New(rand.NewPCG(7, 4))
	for range 150 {
		m := picked(dice, 2+dice.IntN(40), 1+dice.IntN(3), 1)
		for i, row := range m.Next {
			row[0] = min(i+1, len(m.Next)-1)
			if dice.IntN(3) == 0 {
				row[0] = max(0, i-1)
			}
			for c := range row[1:] {
				row[1+c] = max(0, min(len(m.Next)-1, i+dice.IntN(5)-2))
			}
		}
		m.Out[dice.IntN(len(m.Out))].Plain = 4
		wantSameWords(t, m, wantByWords(t, m), nil, 4)
		wantByWords(t, spread(dice, m, len(m.Next)+dice.IntN(30)))
	}
}

// P7.3: long words.
func TestLongWords(t *testing.T) {
	dice := rand.New(rand.NewPCG(7, 5))
	for range 50 {
		m := spread(dice, picked(dice, 30, 5, 2), 300)
		got := Least(m)
		for range 100 {
			w := make([]byte, dice.IntN(200))
			for i := range w {
				w[i] = byte(dice.IntN(256))
			}
			if moore.Run(got, w) != moore.Run(m, w) {
				t.Fatalf("%s tells otherwise than %s of %v", shown(got), shown(m), w)
			}
		}
	}
}

// P7.1, P7.3: machines of rules.
func TestMadeRules(t *testing.T) {
	dice := rand.New(rand.NewPCG(7, 6))
	parts := []string{"a", "b", "[ab]", "a?", "(ab|c)", "(a|b|ac){1,3}", "(ab|cb)", ".", "a{2,3}", "[^a]?"}
	fewer := 0
	for range 400 {
		var texts []string
		for range 1 + dice.IntN(3) {
			text := strings.Repeat("#", dice.IntN(2))
			for range 1 + dice.IntN(3) {
				text += parts[dice.IntN(len(parts))]
			}
			texts = append(texts, text)
		}
		m := build(t, 1+dice.IntN(8), texts...)
		if len(m.Next) > 60 {
			continue
		}
		if got := wantByWords(t, m); len(got.Next) < len(m.Next) {
			fewer++
		}
	}
	if fewer < 100 {
		t.Errorf("only %d have fewer states then", fewer)
	}
}
