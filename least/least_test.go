package least

import (
	"math"
	"math/rand/v2"
	"reflect"
	"slices"
	"strconv"
	"strings"
	"testing"

	"snaffle/api"
	"snaffle/moore"
	"snaffle/nfa"
	"snaffle/rx"
)

// shown writes the states, one behind the other: of each its Next, then + and the bits of Plain, # and those of Luhn.
func shown(m moore.Machine) string {
	if len(m.Next) != len(m.Out) {
		return strconv.Itoa(len(m.Next)) + " Next, " + strconv.Itoa(len(m.Out)) + " Out"
	}
	var l []string
	for i, row := range m.Next {
		var next []string
		for _, state := range row {
			next = append(next, strconv.Itoa(state))
		}
		l = append(l, strings.Join(next, ",")+bits("+", m.Out[i].Plain)+bits("#", m.Out[i].Luhn))
	}
	return strings.Join(l, " ")
}

func bits(mark string, x uint64) string {
	if x == 0 {
		return ""
	}
	return mark + strconv.FormatUint(x, 10)
}

// read reads what shown writes: a machine of these states, whose classes have bytes, but for those beyond the first three.
func read(t *testing.T, text string) moore.Machine {
	t.Helper()
	var m moore.Machine
	for _, state := range strings.Fields(text) {
		var o api.Out
		state, o.Luhn = cut(t, state, "#")
		state, o.Plain = cut(t, state, "+")
		var row []int
		for _, next := range strings.Split(state, ",") {
			row = append(row, int(number(t, next)))
		}
		m.Next, m.Out, m.Classes = append(m.Next, row), append(m.Out, o), len(row)
	}
	for b := range m.Class {
		m.Class[b] = b % min(3, m.Classes)
	}
	return m
}

func cut(t *testing.T, text, mark string) (string, uint64) {
	t.Helper()
	text, bits, ok := strings.Cut(text, mark)
	if !ok {
		return text, 0
	}
	return text, number(t, bits)
}

func number(t *testing.T, text string) uint64 {
	t.Helper()
	x, err := strconv.ParseUint(text, 10, 64)
	if err != nil {
		t.Fatal(err)
	}
	return x
}

// wantStates wants the same classes, and these states.
func wantStates(t *testing.T, m moore.Machine, want string) {
	t.Helper()
	got := Least(m)
	if shown(got) != want {
		t.Errorf("%s: %s, not %s", shown(m), shown(got), want)
	}
	if got.Classes != m.Classes || got.Class != m.Class {
		t.Errorf("%s: other classes: %d, %v", shown(m), got.Classes, got.Class)
	}
}

// P7.1, as are all up to TestRulesAsLeastMachines.
func TestLeast(t *testing.T) {
	for _, c := range []struct {
		name, machine, want string
	}{
		{"one state", "0", "0"},
		{"one state that tells", "0+2#4", "0+2#4"},
		{"one state, three classes", "0,0,0+6", "0,0,0+6"},

		{"no two alike", "0,1 0,1+2", "0,1 0,1+2"},
		{"no two alike, a row", "0,1 0,2 0,3+4 0,3+12", "0,1 0,2 0,3+4 0,3+12"},
		{"no two alike, all rows the same", "1,2,0 1,2,0+1 1,2,0#1", "1,2,0 1,2,0+1 1,2,0#1"},
		{"all alike", "1,2 2,0 0,1", "0,0"},
		{"all alike, and tell", "1,2+6 2,0+6 0,1+6", "0,0+6"},
		{"two alike to the beginning", "1 0", "0"},
		{"one alike to the beginning, one not", "1,2 0,2 1,0+2", "0,1 0,0+2"},

		{"none leads there", "0 1 2", "0"},
		{"none leads there, and each tells something else", "0 1+2 2#2", "0"},
		{"none leads there but by one another", "0 2 1+2", "0"},
		{"none leads there, but from there", "0,0 0,1+2", "0,0"},
		{"the first of those that are alike can't be come to", "2+4 2 2", "1+4 1"},
		{"what is alike can't be come to", "2 1+2 3+2 3", "1 2+2 2"},
		{"the last one is the beginning's goal", "3 1+1 2+2 3+4", "1 1+4"},

		// Told apart by what they tell: either kind, and each bit.
		{"plain and luhn", "1,2 1,1+2 1,1#2", "1,2 1,1+2 1,1#2"},
		{"one bit more", "1,2 1,1+2 1,1+6", "1,2 1,1+2 1,1+6"},
		{"luhn, too", "1,2 1,1+2 1,1+2#2", "1,2 1,1+2 1,1+2#2"},
		{"one way and the other", "1,2 1,1+2#4 1,1+4#2", "1,2 1,1+2#4 1,1+4#2"},
		{"the same of both", "1,2 1,1+2#4 1,1+2#4", "1,1 1,1+2#4"},
		{"bit 0", "1,2 1,1+1 1,1", "1,2 1,1+1 1,1"},
		{"bit 32", "1,2 1,1+4294967296 1,1", "1,2 1,1+4294967296 1,1"},
		{"bit 63", "1,2 1,1#9223372036854775808 1,1", "1,2 1,1#9223372036854775808 1,1"},
		{"all bits but one", "1,2 1,1#18446744073709551615 1,1#18446744073709551614", "1,2 1,1#18446744073709551615 1,1#18446744073709551614"},

		// Told apart by what their ways tell: at once, and far behind.
		{"by one class", "1,2,0 0,3,0 0,4,0 0,3,3+1 0,3,3+2", "1,2,0 0,3,0 0,4,0 0,3,3+1 0,3,3+2"},
		{"by the other order", "1,2 3,4 4,3 0,0+1 0,0+2", "1,2 3,4 4,3 0,0+1 0,0+2"},
		{"at the fifth byte", "1,6 2,2 3,3 4,4 5,5 5,5+2 7,7 8,8 9,9 10,10 10,10+4", "1,2 3,3 4,4 5,5 6,6 7,7 8,8 9,9 10,10 9,9+2 10,10+4"},
		{"alike all five bytes", "1,6 2,2 3,3 4,4 5,5 5,5+2 7,7 8,8 9,9 10,10 5,10+2", "1,1 2,2 3,3 4,4 5,5 5,5+2"},
		{"one behind, and alike", "1,2 3,3 4,4 3,3+2 4,4+2", "1,1 2,2 2,2+2"},
		{"one longer", "1,2 3,3 4,4 3,3+2 3,3", "1,2 3,3 1,1 3,3+2"},

		// Rounds.
		{"a round of six that is one of two", "1 2+1 3 4+1 5 0+1", "1 0+1"},
		{"a round of six that is one of three", "1 2 3+1 4 5 0+1", "1 2 0+1"},
		{"a round of six", "1 2 3 4 5 0+1", "1 2 3 4 5 0+1"},
		{"a round of five", "1 2 3+1 4 0+1", "1 2 3+1 4 0+1"},
		{"a round with a way to it", "1+1 2 3+1 4 1+1", "1+1 0"},
		{"a round with another way to it", "1 2 3+1 4 1+1", "1 2 1+1"},
		{"to and fro", "1,2 0,2 2,1", "0,0"},
		{"two rounds that are alike", "1,3 2,0 0,1+1 4,3 5,3 3,4+1", "1,0 2,0 0,1+1"},
		{"two rounds that aren't", "1,3 2,0 0,1+1 4,0 5,3 3,3+1", "1,2 3,0 4,0 0,1+1 5,2 2,2+1"},

		// The order: as they are met, state by state and class by class, however they were counted.
		{"class by class", "2,1 1,1+1 2,2+2", "1,2 1,1+2 2,2+1"},
		{"backwards", "4 0+1 1+2 2+3 3+4", "1 2+4 3+3 4+2 0+1"},
		{"state by state", "3,1 4,4+1 2,2+2 2,2+3 1,1+4", "1,2 3,3+3 4,4+1 3,3+2 2,2+4"},
		{"one that is alike stands ahead", "2,3 1,1+1 1,2+2 2,1+2", "1,2 3,1+2 1,3+2 3,3+1"},
		{"the later one is met first", "3,2 1,1+1 4,4 1,1 1,1+1", "1,1 2,2 2,2+1"},
		{"with others between", "5,0 1,2+7 9,9+1 1,0 8,8 7,0 6,6 2,4 4,4+8 2,2+1", "1,0 2,0 3,4 3,3+1 5,5 4,4+8"},

		// Classes that no byte has: the fourth, and those behind it.
		{"a way that no byte goes", "0,0,0,1 0,0,0,0+1", "0,0,0,1 0,0,0,0+1"},
		{"ways that no byte goes, and none tells", "1,2,0,0 1,1,1,1 1,1,1,0", "0,0,0,0"},
		{"told apart by a way that no byte goes", "1,2,0,0 1,1,1,3 1,1,1,1 1,1,1,1+1", "1,2,0,0 1,1,1,3 1,1,1,1 1,1,1,1+1"},
		{"counted by a class that no byte has", "0,0,0,2,1 0,0,0,0,0+1 0,0,0,0,0+2", "0,0,0,1,2 0,0,0,0,0+2 0,0,0,0,0+1"},
	} {
		t.Run(c.name, func(t *testing.T) { wantStates(t, read(t, c.machine), c.want) })
	}
}

// Which bytes are of a class doesn't matter to the states.
func TestClassesStay(t *testing.T) {
	for _, text := range []string{"0", "1,2,0,0,0 2,1,0,0,0 0,0,1,2,3 1,1,1,1,1+1", "0,1 1,0 0,0", "0,0,0,0,2 1,1,1,1,1 0,0,0,1,1+2"} {
		m := read(t, text)
		want := shown(Least(m))
		for shift := range 5 {
			for b := range m.Class {
				m.Class[b] = (b*b + shift) % m.Classes
			}
			wantStates(t, m, want)
		}
		for b := range m.Class {
			m.Class[b] = 0
		}
		wantStates(t, m, want)
	}
}

// More classes than there are bytes, all of them lead elsewhere, or all but the last one to the same.
func TestManyClasses(t *testing.T) {
	const many = 70000
	m := moore.Machine{Classes: many, Next: [][]int{make([]int, many), make([]int, many), make([]int, many)}, Out: []api.Out{{}, {}, {Luhn: 1}}}
	m.Class[7] = many - 1
	m.Next[0][many-2] = 1
	if got := Least(m); len(got.Next) != 1 || len(got.Next[0]) != many || got.Class[7] != many-1 {
		t.Errorf("%d states", len(got.Next))
	}
	m.Next[1][many-1] = 2
	got := Least(m)
	if len(got.Next) != 3 || got.Next[0][many-2] != 1 || got.Next[1][many-1] != 2 || got.Next[0][many-1] != 0 {
		t.Errorf("%d states", len(got.Next))
	}
	m.Next[2] = slices.Clone(m.Next[1])
	m.Out[2] = api.Out{}
	if got := Least(m); len(got.Next) != 1 {
		t.Errorf("%d states", len(got.Next))
	}
}

func build(t *testing.T, lambda int, texts ...string) moore.Machine {
	t.Helper()
	var l []nfa.Nfa
	var luhn []bool
	for _, text := range texts {
		pattern, check := strings.CutPrefix(text, "#")
		n, err := rx.Parse(pattern)
		if err != nil {
			t.Fatalf("%q: %v", text, err)
		}
		a, err := nfa.Build(n)
		if err != nil {
			t.Fatalf("%q: %v", text, err)
		}
		l, luhn = append(l, a), append(luhn, check)
	}
	m, err := moore.Build(l, luhn, lambda, api.MaxCap)
	if err != nil {
		t.Fatalf("%q: %v", texts, err)
	}
	return m
}

func TestRulesAsLeastMachines(t *testing.T) {
	for _, c := range []struct {
		rules  string // with blanks between
		lambda int
		want   string
	}{
		{"", 32, "0"},
		{"[^\x00-\xff]?", 32, "0"},
		{"a", 1, "0,1 0,1+2"},
		{"ab", 1, "0,0,0"},
		{"ab", 2, "0,1,0 0,1,2 0,1,0+4"},
		{"#ab", 2, "0,1,0 0,1,2 0,1,0#4"},
		{"abc", 2, "0,0,0,0"},
		{"a{3}", 2, "0,0"},
		{"a{2,3}", 1, "0,0"},
		{"a{2,3}", 2, "0,1 0,2 0,2+4"},
		{"a|b", 1, "0,1,1 0,1,1+2"},
		{"a|b [ab]", 1, "0,1,1 0,1,1+2"},
		{"a #b", 1, "0,1,2 0,1,2+2 0,1,2#2"},
		{"ab|cb", 2, "0,1,0,1 0,1,2,1 0,1,0,1+4"},
		{"a[ab]{2}", 3, "0,1,0 0,2,3 0,4,5 0,6,7 0,4,5+8 0,6,7+8 0,2,3+8 0,1,0+8"},
		{"[ab].", 1, "0,0,0"},
		{"(a|b){3}", 3, "0,1,1 0,2,2 0,3,3 0,3,3+8"},
		{"x(ab|cb)", 3, "0,0,0,0,1 0,2,0,2,1 0,0,3,0,1 0,0,0,0,1+8"},
	} {
		wantStates(t, build(t, c.lambda, strings.Fields(c.rules)...), c.want)
	}
}

// P1: machines of many states, of the kinds that take long if states are told apart one length of runs at a time.
func TestManyStates(t *testing.T) {
	const many = 1 << 20
	chain := ring(many, 1)
	chain.Next[many-1][0] = many - 1
	for _, c := range []struct {
		name    string
		machine moore.Machine
		told    int // the last state alone tells something, if it isn't 0
		want    int
	}{
		{"a chain that tells nothing", chain, 0, 1},
		{"a chain that tells at its end", chain, many - 1, many},
		{"a chain that tells in the middle", chain, many / 2, many/2 + 2},
		{"a ring that tells nothing", ring(many, 1), 0, 1},
		{"a ring that tells once", ring(many, 1), 5, many},
		{"a ring of steps of 3", ring(many, 3), 5, many},
		{"a ring of even steps", ring(many, 2), 5, 1},
		{"a ring of even steps that tells", ring(many, 2), 4, many / 2},
	} {
		m := c.machine
		m.Out = make([]api.Out, many)
		if c.told != 0 {
			m.Out[c.told].Luhn = 1
		}
		if got := Least(m); len(got.Next) != c.want || len(got.Out) != c.want {
			t.Errorf("%s: %d states, not %d", c.name, len(got.Next), c.want)
		}
	}
}

// ring is a machine of n states, each of which leads so many states on.
func ring(n, on int) moore.Machine {
	m := moore.Machine{Classes: 1, Next: make([][]int, n), Out: make([]api.Out, n)}
	for i := range m.Next {
		m.Next[i] = []int{(i + on) % n}
	}
	return m
}

// P1: each state tells something else, or only one from each other.
func TestManyStatesAndClasses(t *testing.T) {
	const many, classes = 3000, 256
	dice := rand.New(rand.NewPCG(7, 1))
	m := moore.Machine{Classes: classes, Next: make([][]int, many), Out: make([]api.Out, many)}
	for i := range m.Next {
		m.Next[i] = make([]int, classes)
		for c := range classes {
			m.Next[i][c] = dice.IntN(many)
		}
		m.Next[i][classes-1] = (i + 1) % many
	}
	for b := range m.Class {
		m.Class[b] = b
	}
	if got := Least(m); len(got.Next) != 1 {
		t.Errorf("none tells: %d states", len(got.Next))
	}
	m.Out[many-1].Plain = 1
	if got := Least(m); len(got.Next) != many {
		t.Errorf("one tells: %d states", len(got.Next))
	}
	for i := range m.Out {
		m.Out[i].Plain = uint64(i)
	}
	if got := Least(m); len(got.Next) != many {
		t.Errorf("each tells: %d states", len(got.Next))
	}
}

func clone(m moore.Machine) moore.Machine {
	m.Next, m.Out = slices.Clone(m.Next), slices.Clone(m.Out)
	for i, row := range m.Next {
		m.Next[i] = slices.Clone(row)
	}
	return m
}

// spoil writes over all of m, and over what room there is behind its lists.
func spoil(m moore.Machine) {
	for _, row := range m.Next {
		spoilRow(row)
	}
	clear(m.Next[:cap(m.Next)])
	for i := range m.Out[:cap(m.Out)] {
		m.Out[:cap(m.Out)][i] = api.Out{Plain: math.MaxUint64, Luhn: 77}
	}
}

func spoilRow(row []int) {
	row = row[:cap(row)]
	for i := range row {
		row[i] = -7
	}
}

var several = []string{
	"0", "0+1", "0,1 0,1+2", "1,2 2,0 0,1", "2+4 2 2", "1,6 2,2 3,3 4,4 5,5 5,5+2 7,7 8,8 9,9 10,10 5,10+2", "3,2 1,1+1 4,4 1,1 1,1+1",
	"5,0 1,2+7 9,9+1 1,0 8,8 7,0 6,6 2,4 4,4+8 2,2+1", "1,2,0,0 1,1,1,3 1,1,1,1 1,1,1,1+1",
}

// P7.2, as are all up to TestNoTwoRowsShare.
func TestWhatIsHandedInStaysAndIsForgotten(t *testing.T) {
	for _, text := range several {
		m := read(t, text)
		was := clone(m)
		got := Least(m)
		first := clone(got)
		if !reflect.DeepEqual(m, was) {
			t.Errorf("%s is changed: %s", text, shown(m))
		}
		spoil(m)
		m.Class = [256]int{}
		if !reflect.DeepEqual(got, first) {
			t.Errorf("%s is told otherwise when it is gone: %s", text, shown(got))
		}
		m = clone(was)
		got = Least(m)
		spoil(got)
		if !reflect.DeepEqual(m, was) {
			t.Errorf("%s shares with what is told: %s", text, shown(m))
		}
		if got := Least(m); !reflect.DeepEqual(got, first) {
			t.Errorf("%s is told otherwise again: %s", text, shown(got))
		}
	}
}

// A row may be the same list as another one; those that are told never are.
func TestRowsThatShare(t *testing.T) {
	row := []int{1, 2, 0}
	m := moore.Machine{Classes: 3, Next: [][]int{row, row, row}, Out: []api.Out{{}, {Plain: 1}, {Luhn: 1}}}
	got := Least(m)
	if shown(got) != "1,2,0 1,2,0+1 1,2,0#1" {
		t.Error(shown(got))
	}
	spoilRow(got.Next[1])
	if got.Next[1] = row; shown(got) != "1,2,0 1,2,0+1 1,2,0#1" {
		t.Error(shown(got))
	}
}

func TestNoTwoRowsShare(t *testing.T) {
	for _, text := range several {
		want := Least(read(t, text))
		for i := range want.Next {
			got := Least(read(t, text))
			spoilRow(got.Next[i])
			if got.Next[i] = want.Next[i]; shown(got) != shown(want) {
				t.Errorf("%s: row %d shares with another one: %s", text, i, shown(got))
			}
		}
	}
}

// Room behind the rows that are handed in is no part of them.
func TestRoomBehindStays(t *testing.T) {
	room := []int{1, 0, 5, 0, 0, 6}
	m := moore.Machine{Classes: 2, Next: append(make([][]int, 0, 9), room[:2], room[3:5]), Out: append(make([]api.Out, 0, 9), api.Out{}, api.Out{Plain: 2})}
	if got := Least(m); shown(got) != "1,0 0,0+2" || !slices.Equal(room, []int{1, 0, 5, 0, 0, 6}) {
		t.Error(shown(got), room)
	}
	for _, row := range m.Next[:9][2:] {
		if row != nil {
			t.Error("a row is laid behind those that are handed in")
		}
	}
	if m.Out[:3][2] != (api.Out{}) {
		t.Error("what a state tells is laid behind that which is handed in")
	}
}
