package moore

import (
	"math"
	"reflect"
	"slices"
	"strconv"
	"strings"
	"testing"

	"snaffle/api"
	"snaffle/nfa"
	"snaffle/rx"
	"snaffle/set"
)

func parse(t *testing.T, text string) api.Node {
	t.Helper()
	n, err := rx.Parse(text)
	if err != nil {
		t.Fatalf("%q: %v", text, err)
	}
	return n
}

func laid(t *testing.T, n api.Node) nfa.Nfa {
	t.Helper()
	a, err := nfa.Build(n)
	if err != nil {
		t.Fatalf("%v: %v", n, err)
	}
	return a
}

// written reads rules: of each its pattern; a # ahead of it, which is none of it, stands for the check.
func written(t *testing.T, texts ...string) ([]nfa.Nfa, []bool) {
	t.Helper()
	var l []nfa.Nfa
	var luhn []bool
	for _, text := range texts {
		pattern, check := strings.CutPrefix(text, "#")
		l, luhn = append(l, laid(t, parse(t, pattern))), append(luhn, check)
	}
	return l, luhn
}

func build(t *testing.T, lambda int, texts ...string) Machine {
	t.Helper()
	l, luhn := written(t, texts...)
	m, err := Build(l, luhn, lambda, 1000)
	if err != nil {
		t.Fatalf("%q: %v", texts, err)
	}
	return m
}

// wantError wants this Code itself, and nothing beside it.
func wantError(t *testing.T, name string, m Machine, err error, want api.Code) {
	t.Helper()
	if code, ok := err.(api.Code); !ok || code != want {
		t.Errorf("%s: %v, not %v", name, err, want)
	}
	if !reflect.DeepEqual(m, Machine{}) {
		t.Errorf("%s: a machine is told beside the error: %d classes, %s", name, m.Classes, shown(m))
	}
}

// shown writes the states, one behind the other: of each its Next, then + and the lengths of Plain, # and those of Luhn.
func shown(m Machine) string {
	if len(m.Next) != len(m.Out) {
		return strconv.Itoa(len(m.Next)) + " Next, " + strconv.Itoa(len(m.Out)) + " Out"
	}
	var l []string
	for i, row := range m.Next {
		var next []string
		for _, state := range row {
			next = append(next, strconv.Itoa(state))
		}
		l = append(l, strings.Join(next, ",")+told(m.Out[i]))
	}
	return strings.Join(l, " ")
}

func told(o api.Out) string {
	return lengths("+", o.Plain) + lengths("#", o.Luhn)
}

func lengths(mark string, bits uint64) string {
	var l []string
	for n := range 64 {
		if bits>>n&1 == 1 {
			l = append(l, strconv.Itoa(n))
		}
	}
	if l == nil {
		return ""
	}
	return mark + strings.Join(l, ",")
}

// classed writes how many classes there are, then each run of bytes of one class: where it begins, and its class.
func classed(m Machine) string {
	text := strconv.Itoa(m.Classes) + ":"
	for b, c := range m.Class {
		if b == 0 || m.Class[b-1] != c {
			text += " " + strconv.Itoa(b) + ">" + strconv.Itoa(c)
		}
	}
	return text
}

const none = "[^\x00-\xff]"

// P6.1, as are all up to TestRunOfMadeMachines.
func TestBuild(t *testing.T) {
	for _, c := range []struct {
		rules  string // with blanks between
		lambda int
		want   string
	}{
		{"", 1, "0"},
		{"", 32, "0"},

		{"a", 1, "0,1 0,1+1"},
		{"a", 32, "0,1 0,1+1"},
		{"#a", 1, "0,1 0,1#1"},
		{"[a-z]", 1, "0,1 0,1+1"},
		{"[^a]", 1, "1,0 1,0+1"},
		{"[\x00-\xff]", 1, "1 1+1"},
		{"[\x00-\xff]{3}", 3, "1 2 3 3+3"},

		// A rule that has no word but the empty one, or none at all: no byte leads from the beginning.
		{none, 1, "0"},
		{none + "?", 1, "0"},
		{none + "?", 32, "0"},
		{"#" + none + "?", 32, "0"},
		{"(" + none + "?){2,4}|" + none, 32, "0"},
		{none + "a", 2, "0,0"},
		{none + "?a", 2, "0,1 0,1+1"},
		{"a" + none, 2, "0,1 0,1"},
		{"a" + none + "?", 2, "0,1 0,1+1"},
		{"a?", 1, "0,1 0,1+1"},
		{"#a?", 1, "0,1 0,1#1"},

		// Lambda below, at and above the length of a word.
		{"ab", 1, "0,1,0 0,1,0"},
		{"ab", 2, "0,1,0 0,1,2 0,1,0+2"},
		{"ab", 3, "0,1,0 0,1,2 0,1,0+2"},
		{"ab", 32, "0,1,0 0,1,2 0,1,0+2"},
		{"abc", 1, "0,1,0,0 0,1,0,0"},
		{"abc", 2, "0,1,0,0 0,1,2,0 0,1,0,0"},
		{"abc", 3, "0,1,0,0 0,1,2,0 0,1,0,3 0,1,0,0+3"},
		{"a{2,3}", 1, "0,1 0,1"},
		{"a{2,3}", 2, "0,1 0,2 0,2+2"},
		{"a{2,3}", 3, "0,1 0,2 0,3+2 0,3+2,3"},
		{"a{2,3}", 4, "0,1 0,2 0,3+2 0,3+2,3"},
		{"ab?", 1, "0,1,0 0,1,0+1"},

		// Several lengths that end at once: of one rule and of several, at one place and at several.
		{"a{1,3}", 3, "0,1 0,2+1 0,3+1,2 0,3+1,2,3"},
		{"a{1,2}b", 3, "0,1,0 0,2,3 0,2,4 0,1,0+2 0,1,0+2,3"},
		{"a{1,2}b", 2, "0,1,0 0,2,3 0,2,3 0,1,0+2"},
		{"a aa", 2, "0,1 0,2+1 0,2+1,2"},
		{"aa a", 2, "0,1 0,2+1 0,2+1,2"},
		{"a #aa", 2, "0,1 0,2+1 0,2+1#2"},
		{"#a aa", 2, "0,1 0,2#1 0,2+2#1"},
		{"#a #aa", 2, "0,1 0,2#1 0,2#1,2"},
		{"a|ab|b", 2, "0,1,2 0,1,3+1 0,1,2+1 0,1,2+1,2"},

		// A rule that stands twice, and one word with the check and without.
		{"ab ab", 2, "0,1,0 0,1,2 0,1,0+2"},
		{"#ab #ab", 2, "0,1,0 0,1,2 0,1,0#2"},
		{"ab #ab", 2, "0,1,0 0,1,2 0,1,0+2#2"},
		{"#ab ab", 2, "0,1,0 0,1,2 0,1,0+2#2"},
		{"ab #a", 2, "0,1,0 0,1,2#1 0,1,0+2"},
		{"#ab a", 2, "0,1,0 0,1,2+1 0,1,0#2"},
		{"a #[ab] a", 1, "0,1,2 0,1,2+1#1 0,1,2#1"},
		{"a{1,3} #[ab]", 3, "0,1,2 0,3,2+1#1 0,1,2#1 0,4,2+1,2#1 0,4,2+1,2,3#1"},

		// Words go on in their own rule alone.
		{"ab cd", 2, "0,1,0,2,0 0,1,3,2,0 0,1,0,2,4 0,1,0,2,0+2 0,1,0,2,0+2"},
		{"ax xb", 2, "0,1,0,2 0,1,0,3 0,1,4,2 0,1,4,2+2 0,1,0,2+2"},

		// The order: state by state, class by class; states aren't one for being alike.
		{"a|b", 1, "0,1,2 0,1,2+1 0,1,2+1"},
		{"b|a", 1, "0,1,2 0,1,2+1 0,1,2+1"},
		{"[ab]", 1, "0,1 0,1+1"},
		{"ba", 2, "0,0,1 0,2,1 0,0,1+2"},
		{"ab|cd", 2, "0,1,0,2,0 0,1,3,2,0 0,1,0,2,4 0,1,0,2,0+2 0,1,0,2,0+2"},
		{"ba|dc", 2, "0,0,1,0,2 0,3,1,0,2 0,0,1,4,2 0,0,1,0,2+2 0,0,1,0,2+2"},
		{"aab|c", 3, "0,1,0,2 0,3,0,2 0,1,0,2+1 0,3,4,2 0,1,0,2+3"},
		{"c|aab", 3, "0,1,0,2 0,3,0,2 0,1,0,2+1 0,3,4,2 0,1,0,2+3"},
		{"[\x00-a]b", 2, "1,0,0 1,2,0 1,0,0+2"},
		{"a?b?", 2, "0,1,2 0,1,3+1 0,1,2+1 0,1,2+1,2"},
	} {
		if got := shown(build(t, c.lambda, strings.Fields(c.rules)...)); got != c.want {
			t.Errorf("%q, lambda %d: %s, not %s", c.rules, c.lambda, got, c.want)
		}
	}
}

// The same words may have come otherwise, but lengths and places keep states apart.
func TestStatesAreSetsOfWordsUnderWay(t *testing.T) {
	for text, want := range map[string]int{
		"a{32}":               33,
		"(a|aa){16}":          33,
		"a{31}b":              33,
		"(aa){16}":            33,
		"[ab]{3}":             4,
		"(a|b){3}":            7,
		"a[ab]{2}":            8,
		"(ab|cb){2}":          9,
		"x(ab|cb)":            6,
		"x([ac]b)":            4,
		"(aaa|aaaaa){6}":      31,
		"([ab]c|[ab]d){1,2}e": 9,
	} {
		if got := len(build(t, 32, text).Next); got != want {
			t.Errorf("%q: %d states, not %d", text, got, want)
		}
	}
}

func TestClasses(t *testing.T) {
	for _, c := range []struct {
		rules, want string
	}{
		{"", "1: 0>0"},
		{none, "1: 0>0"},
		{"[\x00-\xff]", "1: 0>0"},
		{"a", "2: 0>0 97>1 98>0"},
		{"[^a]", "2: 0>0 97>1 98>0"},
		{"a a", "2: 0>0 97>1 98>0"},
		{"a{1,3}", "2: 0>0 97>1 98>0"},
		{"[a-c] [cd]", "4: 0>0 97>1 99>2 100>3 101>0"},
		{"[cd] [a-c]", "4: 0>0 97>1 99>2 100>3 101>0"},
		{"[a-c][cd]", "4: 0>0 97>1 99>2 100>3 101>0"},
		{"x [a-c]y?", "4: 0>0 97>1 100>0 120>2 121>3 122>0"},
		{"\x00 \xff", "3: 0>0 1>1 255>2"},
		{none + "a", "2: 0>0 97>1 98>0"},
	} {
		if got := classed(build(t, 4, strings.Fields(c.rules)...)); got != c.want {
			t.Errorf("%q: %s, not %s", c.rules, got, c.want)
		}
	}
}

// bits is a pattern of eight places that tell all bytes apart, none of them more than one.
func bits() api.Node {
	n := api.Node{Op: api.Alt}
	for k := range 8 {
		var b []byte
		for x := range 256 {
			if x>>k&1 == 1 {
				b = append(b, byte(x))
			}
		}
		n.Kids = append(n.Kids, api.Node{Op: api.One, Set: set.Of(b)})
	}
	return n
}

func TestMostClasses(t *testing.T) {
	m, err := Build([]nfa.Nfa{laid(t, bits())}, []bool{true}, 1, 256)
	if err != nil || m.Classes != 256 || len(m.Next) != 256 {
		t.Fatal(err, m.Classes, len(m.Next))
	}
	for i, row := range m.Next {
		for c, next := range row {
			if next != c {
				t.Fatalf("from state %d class %d leads to %d", i, c, next)
			}
		}
	}
	m, err = Build([]nfa.Nfa{laid(t, bits())}, []bool{true}, 1, 255)
	wantError(t, "256 states, most 255", m, err, api.ErrBig)
}

func TestArguments(t *testing.T) {
	for _, c := range []struct {
		name         string
		rules, luhn  int
		lambda, most int
		ok           bool
	}{
		{"as it may be", 1, 1, 4, 10, true},
		{"no rules", 0, 0, 1, 1, true},
		{"all that is most", 3, 3, 32, 1000, true},
		{"all that is least", 1, 1, 1, 2, true},
		{"fewer luhn", 2, 1, 4, 10, false},
		{"no luhn", 1, 0, 4, 10, false},
		{"more luhn", 1, 2, 4, 10, false},
		{"luhn of no rules", 0, 1, 4, 10, false},
		{"lambda 0", 1, 1, 0, 10, false},
		{"lambda 33", 1, 1, 33, 10, false},
		{"lambda 64", 1, 1, 64, 10, false},
		{"lambda -1", 1, 1, -1, 10, false},
		{"the least lambda", 1, 1, math.MinInt, 10, false},
		{"the most lambda", 1, 1, math.MaxInt, 10, false},
		{"most 0", 1, 1, 4, 0, false},
		{"most 1001", 1, 1, 4, 1001, false},
		{"most -1", 1, 1, 4, -1, false},
		{"the least most", 1, 1, 4, math.MinInt, false},
		{"the most most", 1, 1, 4, math.MaxInt, false},
		{"no rules, lambda 0", 0, 0, 0, 1, false},
		{"no rules, lambda 33", 0, 0, 33, 1, false},
		{"no rules, most 0", 0, 0, 1, 0, false},
		{"no rules, most 1001", 0, 0, 1, 1001, false},
		{"nothing as it may be", 1, 0, 0, 0, false},
	} {
		l, luhn := make([]nfa.Nfa, c.rules), make([]bool, c.luhn)
		for i := range l {
			l[i] = laid(t, parse(t, "a"))
		}
		m, err := Build(l, luhn, c.lambda, c.most)
		if !c.ok {
			wantError(t, c.name, m, err, api.ErrArg)
		} else if err != nil || len(m.Next) == 0 {
			t.Errorf("%s: %v, %s", c.name, err, shown(m))
		}
	}
}

// R1: what may not be is told ahead of what there are too many of.
func TestWhatMayNotBeIsToldFirst(t *testing.T) {
	l, luhn := written(t, "[ab]x{20}|.{30}", "#(a|b){30}")
	m, err := Build(l, luhn, 32, 1000)
	wantError(t, "more than 1000 states", m, err, api.ErrBig)
	m, err = Build(l, luhn[:1], 32, 1)
	wantError(t, "fewer luhn, and most 1", m, err, api.ErrArg)
	m, err = Build(l, append(luhn, true), 32, 1)
	wantError(t, "more luhn, and most 1", m, err, api.ErrArg)
	m, err = Build(l, luhn, 33, 1)
	wantError(t, "lambda 33, and most 1", m, err, api.ErrArg)
	m, err = Build(l, luhn, 32, 0)
	wantError(t, "most 0", m, err, api.ErrArg)
	m, err = Build(l, luhn, 32, 1001)
	wantError(t, "most 1001", m, err, api.ErrArg)
}

func TestNilAndEmptyAreNoRules(t *testing.T) {
	for _, l := range [][]nfa.Nfa{nil, {}} {
		for _, luhn := range [][]bool{nil, {}} {
			for _, c := range [][2]int{{1, 1}, {32, 1000}} {
				m, err := Build(l, luhn, c[0], c[1])
				if err != nil || shown(m) != "0" || classed(m) != "1: 0>0" {
					t.Errorf("lambda %d, most %d: %v, %s, %s", c[0], c[1], err, shown(m), classed(m))
				}
			}
		}
	}
}

// wantStates wants just so many states, where there may be as many or more, and ErrBig where there may be fewer.
func wantStates(t *testing.T, name string, l []nfa.Nfa, luhn []bool, lambda, states int) {
	t.Helper()
	for _, most := range []int{1, states - 2, states - 1, states, states + 1, 1000} {
		if most < 1 || most > 1000 {
			continue
		}
		m, err := Build(l, luhn, lambda, most)
		name := name + ", most " + strconv.Itoa(most)
		if most < states {
			wantError(t, name, m, err, api.ErrBig)
		} else if err != nil || len(m.Next) != states || len(m.Out) != states {
			t.Errorf("%s: %v, %d Next, %d Out, not %d", name, err, len(m.Next), len(m.Out), states)
		}
	}
}

func TestMost(t *testing.T) {
	for _, c := range []struct {
		rules          string
		lambda, states int
	}{
		{"", 32, 1}, {none + "?", 32, 1}, {"a", 1, 2}, {"ab", 1, 2}, {"ab", 2, 3}, {"ab ab", 2, 3}, {"ab #ab", 2, 3},
		{"a{32}", 31, 32}, {"a{32}", 32, 33}, {"a{2,3} [ab]", 3, 5}, {"[ab].{5}", 6, 64}, {"[ab].{6}", 7, 128}, {"(a|b){8}", 8, 17},
	} {
		l, luhn := written(t, strings.Fields(c.rules)...)
		wantStates(t, c.rules, l, luhn, c.lambda, c.states)
	}
}

// Each rule here, so many times one byte, has as many states of its own.
func TestMostStates(t *testing.T) {
	var texts []string
	for i := range 31 {
		texts = append(texts, string(rune('A'+i%26+i/26*32))+"{32}")
	}
	for times := 6; times <= 8; times++ {
		l, luhn := written(t, append(texts, "0{"+strconv.Itoa(times)+"}")...)
		wantStates(t, strconv.Itoa(times)+" of the last byte", l, luhn, 32, 993+times)
	}
}

// P1: where there would be more states than can ever be gone through, that is told at once.
func TestFarTooManyStates(t *testing.T) {
	for _, texts := range [][]string{
		{"[ab].{31}"}, {"[ab]{2}.{30}"}, {"[ab][\x00-\xff]{29}[cd]"}, {"(ab|.){16}"}, {"x{32}", "#b?.{12}a"},
	} {
		l, luhn := written(t, texts...)
		m, err := Build(l, luhn, 32, 1000)
		wantError(t, strings.Join(texts, " "), m, err, api.ErrBig)
	}
}

// P1: all lengths at all places, and the most places that there are.
func TestManyWordsUnderWay(t *testing.T) {
	every := api.Node{Op: api.One, Set: set.Range(0, 255)}
	some := api.Node{Op: api.Rep, Max: 8, Kids: []api.Node{{Op: api.Rep, Max: 32, Kids: []api.Node{every}}}}
	l := []nfa.Nfa{laid(t, bits())}
	luhn := []bool{true}
	for range 7 {
		l, luhn = append(l, laid(t, some)), append(luhn, false)
	}
	m, err := Build(l[1:], luhn[1:], 32, 33)
	if err != nil || len(m.Next) != 33 {
		t.Fatal(err, len(m.Next))
	}
	if got := Run(m, make([]byte, 100)); got != (api.Out{Plain: 1<<33 - 2}) {
		t.Error(told(got))
	}
	m, err = Build(l, luhn, 3, 769)
	if err != nil || len(m.Next) != 769 || m.Classes != 256 {
		t.Fatal(err, len(m.Next), m.Classes)
	}
	if got := told(Run(m, []byte{1, 2, 3, 0})); got != "+1,2,3" {
		t.Error(got)
	}
	if got := told(Run(m, []byte{1, 2, 3, 4})); got != "+1,2,3#1" {
		t.Error(got)
	}
}

// P1: however many rules there are, all count.
func TestManyRules(t *testing.T) {
	const many = 20000
	l, luhn := make([]nfa.Nfa, many), make([]bool, many)
	for i := range l {
		l[i] = laid(t, parse(t, "ab"))
	}
	l[many-1], luhn[many-1] = laid(t, parse(t, "[ab]b?")), true
	m, err := Build(l, luhn, 2, 10)
	if err != nil {
		t.Fatal(err)
	}
	if got := shown(m); got != "0,1,2 0,1,3#1 0,1,4#1 0,1,4+2#1,2 0,1,4#1,2" {
		t.Error(got)
	}
}

func TestRun(t *testing.T) {
	for _, c := range []struct {
		rules  string
		lambda int
		word   string
		want   string
	}{
		{"", 32, "", ""},
		{"", 32, "abc", ""},
		{"a", 1, "", ""},
		{"a", 1, "a", "+1"},
		{"a", 1, "b", ""},
		{"a", 1, "aa", "+1"},
		{"a", 1, "ab", ""},
		{"#a", 1, "ba", "#1"},

		// No rule has the empty word here, though its pattern has it.
		{"a?", 1, "", ""},
		{"a?", 1, "b", ""},
		{none + "?", 32, "", ""},
		{none + "?", 32, "a", ""},
		{none + "? #(a?){3}", 32, "b", ""},

		{"ab", 2, "ab", "+2"},
		{"ab", 1, "ab", ""},
		{"ab", 2, "aab", "+2"},
		{"ab", 2, "ababab", "+2"},
		{"ab", 2, "aba", ""},
		{"ab", 2, "ba", ""},
		{"abab", 4, "ababab", "+4"},
		{"abab", 3, "ababab", ""},
		{"aab", 3, "aaab", "+3"},
		{"ababc", 5, "abababc", "+5"},

		{"a{2,4}", 1, "aaaaaa", ""},
		{"a{2,4}", 2, "aaaaaa", "+2"},
		{"a{2,4}", 3, "aaaaaa", "+2,3"},
		{"a{2,4}", 4, "aaaaaa", "+2,3,4"},
		{"a{2,4}", 5, "aaaaaa", "+2,3,4"},
		{"a{2,4}", 5, "aaa", "+2,3"},
		{"a{2,4}", 5, "aaabaa", "+2"},

		{"ab #b", 2, "ab", "+2#1"},
		{"#ab b", 2, "ab", "+1#2"},
		{"ab #ab", 2, "ab", "+2#2"},
		{"ab #ab", 1, "ab", ""},
		{"b ab cab", 3, "cab", "+1,2,3"},
		{"b #ab cab", 3, "xcab", "+1,3#2"},
		{`#\d{4} \d{2}-`, 32, "x12345", "#4"},
		{`#\d{4} \d{2}-`, 32, "x12-", "+3"},

		{"\x00\xff", 2, "\xff\x00\xff", "+2"},
		{"[^a]b", 2, "\xffb", "+2"},
		{"[^a]b", 2, "ab", ""},

		// Words of 31 to 33 bytes.
		{"a{31}", 32, strings.Repeat("a", 40), "+31"},
		{"a{32}", 32, strings.Repeat("a", 40), "+32"},
		{"a{32}", 32, strings.Repeat("a", 31), ""},
		{"a{32}", 31, strings.Repeat("a", 40), ""},
		{"a{32}a", 32, strings.Repeat("a", 40), ""},
		{"a{31,32}a?", 32, strings.Repeat("a", 40), "+31,32"},
		{"#a{31}a?a?", 32, strings.Repeat("a", 40), "#31,32"},
		{"a{32} #a{32}a", 32, strings.Repeat("a", 33), "+32"},
	} {
		if got := told(Run(build(t, c.lambda, strings.Fields(c.rules)...), []byte(c.word))); got != c.want {
			t.Errorf("%q, lambda %d, %q: %q, not %q", c.rules, c.lambda, c.word, got, c.want)
		}
	}
}

func TestRunOfNilAndEmpty(t *testing.T) {
	m := build(t, 2, "a?b?")
	if Run(m, nil) != Run(m, []byte{}) || Run(m, nil) != (api.Out{}) {
		t.Error(Run(m, nil), Run(m, []byte{}))
	}
}

func TestRunOfLongWords(t *testing.T) {
	m := build(t, 5, "ab{1,4}", "#bab")
	w := []byte(strings.Repeat("abb", 1<<20))
	for cut, want := range []string{"+3", "+2#3", "", "+3"} {
		if got := told(Run(m, w[:len(w)-cut])); got != want {
			t.Errorf("without the last %d bytes: %q, not %q", cut, got, want)
		}
	}
	if got := Run(m, make([]byte, 1<<22)); got != (api.Out{}) {
		t.Error(told(got))
	}
}

// Machines of other kinds than Build makes, but that may be: with classes that no byte has, states that nothing leads to,
// states that are alike, and any bits told.
func TestRunOfMadeMachines(t *testing.T) {
	single := Machine{Classes: 1, Next: [][]int{{0}}, Out: []api.Out{{Plain: 1, Luhn: math.MaxUint64}}}
	for _, w := range []string{"", "a", "abc"} {
		if got := Run(single, []byte(w)); got != single.Out[0] {
			t.Errorf("one state, %q: %v", w, got)
		}
	}

	round := Machine{
		Classes: 300,
		Next:    [][]int{make([]int, 300), make([]int, 300), make([]int, 300), make([]int, 300)},
		Out:     []api.Out{{Plain: 7}, {Luhn: 8}, {Plain: 9, Luhn: 10}, {Plain: 11}},
	}
	for c := range 300 {
		round.Next[0][c], round.Next[1][c], round.Next[2][c] = 3, 3, 3
	}
	for b := range 256 {
		round.Class[b] = 299
	}
	round.Next[0][299], round.Next[1][299], round.Next[2][299] = 2, 0, 1
	for size, want := range []api.Out{{Plain: 7}, {Plain: 9, Luhn: 10}, {Luhn: 8}, {Plain: 7}, {Plain: 9, Luhn: 10}} {
		if got := Run(round, make([]byte, size)); got != want {
			t.Errorf("round and round, %d bytes: %v, not %v", size, got, want)
		}
	}

	// Here the state is the last byte, as the class has it; and the beginning is another one.
	last := Machine{Classes: 256, Next: make([][]int, 257), Out: make([]api.Out, 257)}
	for i := range last.Next {
		for c := range 256 {
			last.Next[i] = append(last.Next[i], c+1)
		}
		last.Out[i] = api.Out{Plain: uint64(i)}
	}
	for b := range 256 {
		last.Class[b] = 255 - b
	}
	for b := range 256 {
		if got := Run(last, []byte{7, byte(b)}); got != (api.Out{Plain: uint64(256 - b)}) {
			t.Errorf("the last byte %d: %v", b, got)
		}
	}
	if got := Run(last, nil); got != (api.Out{}) {
		t.Errorf("no last byte: %v", got)
	}
}

func clone(l []nfa.Nfa) []nfa.Nfa {
	var all []nfa.Nfa
	for _, a := range l {
		c := nfa.Nfa{
			Sets: slices.Clone(a.Sets), First: slices.Clone(a.First), Last: slices.Clone(a.Last), Follow: slices.Clone(a.Follow), Empty: a.Empty,
		}
		for p, f := range c.Follow {
			c.Follow[p] = slices.Clone(f)
		}
		all = append(all, c)
	}
	return all
}

// spoil writes over all of l, and over what room there is behind its lists.
func spoil(l []nfa.Nfa) {
	for i := range l {
		a := &l[i]
		for _, f := range append(a.Follow, a.First) {
			spoilList(f)
		}
		clear(a.Sets[:cap(a.Sets)])
		clear(a.Last[:cap(a.Last)])
		clear(a.Follow[:cap(a.Follow)])
		*a = nfa.Nfa{}
	}
}

func spoilList(l []int) {
	l = l[:cap(l)]
	for i := range l {
		l[i] = -7
	}
}

func spoilMachine(m Machine) {
	for _, row := range m.Next {
		spoilList(row)
	}
	clear(m.Next[:cap(m.Next)])
	for i := range m.Out[:cap(m.Out)] {
		m.Out[:cap(m.Out)][i] = api.Out{Plain: 77, Luhn: 77}
	}
}

var several = []string{"", "a", "ab", "ab #ab", "a{1,3} #[ab]", "(a|ab?){2,3} #b?c? x", "a?{4}{8}", "(a?b?|c){0,5}{2}d " + none + "?"}

// P6.2, as are all up to TestNoTwoRowsShare.
func TestWhatIsHandedInStaysAndIsForgotten(t *testing.T) {
	for _, text := range several {
		l, luhn := written(t, strings.Fields(text)...)
		was, wasLuhn := clone(l), slices.Clone(luhn)
		m, err := Build(l, luhn, 8, 1000)
		first, firstClasses := shown(m), classed(m)
		if err != nil || !reflect.DeepEqual(l, was) || !slices.Equal(luhn, wasLuhn) {
			t.Errorf("%q: %v, or changed: %v, %v", text, err, l, luhn)
		}
		spoil(l)
		clear(luhn)
		if shown(m) != first || classed(m) != firstClasses {
			t.Errorf("%q is told otherwise when it is gone: %s, %s", text, shown(m), classed(m))
		}
		spoilMachine(m)
		again, err := Build(was, wasLuhn, 8, 1000)
		if err != nil || shown(again) != first || classed(again) != firstClasses {
			t.Errorf("%q is told otherwise again: %v, %s, %s", text, err, shown(again), classed(again))
		}
	}
}

// With an error, too.
func TestWhatIsHandedInStaysWithAnError(t *testing.T) {
	l, luhn := written(t, "(a|b){1,30}", "#[ab].{20}")
	was, wasLuhn := clone(l), slices.Clone(luhn)
	Build(l, luhn, 32, 1000)
	Build(l, luhn, 0, 1000)
	Build(l, luhn[:1], 32, 1000)
	if !reflect.DeepEqual(l, was) || !slices.Equal(luhn, wasLuhn) {
		t.Errorf("changed: %v, %v", l, luhn)
	}
}

func TestRunChangesNothing(t *testing.T) {
	for _, text := range several {
		m := build(t, 8, strings.Fields(text)...)
		first, firstClasses := shown(m), classed(m)
		room := []byte("xaabcdax")
		got := Run(m, room[1:6])
		if string(room) != "xaabcdax" || shown(m) != first || classed(m) != firstClasses {
			t.Errorf("%q: Run changes %q, %s, %s", text, room, shown(m), classed(m))
		}
		Run(m, []byte("dcba"))
		if Run(m, room[1:6]) != got {
			t.Errorf("%q: told otherwise again", text)
		}
	}
}

func TestNoTwoRowsShare(t *testing.T) {
	for _, text := range several {
		want := build(t, 8, strings.Fields(text)...)
		for i := range want.Next {
			m := build(t, 8, strings.Fields(text)...)
			spoilList(m.Next[i])
			m.Next[i] = want.Next[i]
			if shown(m) != shown(want) {
				t.Errorf("%q: row %d shares with another one: %s", text, i, shown(m))
			}
		}
	}
}
