package table

import (
	"math"
	"reflect"
	"slices"
	"strconv"
	"strings"
	"testing"

	"snaffle/api"
	"snaffle/mask"
	"snaffle/moore"
	"snaffle/rx"
)

// written reads rules: of each its pattern; a # ahead of it, which is none of it, stands for the check.
func written(t *testing.T, texts ...string) []mask.Rule {
	t.Helper()
	var l []mask.Rule
	for _, text := range texts {
		pattern, check := strings.CutPrefix(text, "#")
		n, err := rx.Parse(pattern)
		if err != nil {
			t.Fatalf("%q: %v", text, err)
		}
		l = append(l, mask.Rule{N: n, Luhn: check})
	}
	return l
}

func build(t *testing.T, lambda int, texts ...string) moore.Machine {
	t.Helper()
	m, err := Build(written(t, texts...), lambda, 1000)
	if err != nil {
		t.Fatalf("%q: %v", texts, err)
	}
	return m
}

// wantError wants this Code itself, and nothing beside it.
func wantError(t *testing.T, name string, m moore.Machine, err error, want api.Code) {
	t.Helper()
	if code, ok := err.(api.Code); !ok || code != want {
		t.Errorf("%s: %v, not %v", name, err, want)
	}
	if !reflect.DeepEqual(m, moore.Machine{}) {
		t.Errorf("%s: a machine is told beside the error: %d classes, %s", name, m.Classes, shown(m))
	}
}

// shown writes the states, one behind the other: of each its Next, then + and the lengths of Plain, # and those of Luhn.
func shown(m moore.Machine) string {
	if len(m.Next) != len(m.Out) {
		return strconv.Itoa(len(m.Next)) + " Next, " + strconv.Itoa(len(m.Out)) + " Out"
	}
	var l []string
	for i, row := range m.Next {
		var next []string
		for _, state := range row {
			next = append(next, strconv.Itoa(state))
		}
		l = append(l, strings.Join(next, ",")+told(m.Out[i]))
	}
	return strings.Join(l, " ")
}

func told(o api.Out) string {
	return lengths("+", o.Plain) + lengths("#", o.Luhn)
}

func lengths(mark string, bits uint64) string {
	var l []string
	for n := range 64 {
		if bits>>n&1 == 1 {
			l = append(l, strconv.Itoa(n))
		}
	}
	if l == nil {
		return ""
	}
	return mark + strings.Join(l, ",")
}

// classed writes how many classes there are, then each run of bytes of one class: where it begins, and its class.
func classed(m moore.Machine) string {
	text := strconv.Itoa(m.Classes) + ":"
	for b, c := range m.Class {
		if b == 0 || m.Class[b-1] != c {
			text += " " + strconv.Itoa(b) + ">" + strconv.Itoa(c)
		}
	}
	return text
}

const none = "[^\x00-\xff]"

// P16.1, as are all up to TestManyRules.
func TestBuild(t *testing.T) {
	for _, c := range []struct {
		rules  string // with blanks between
		lambda int
		want   string
	}{
		// The chapter's example.
		{"", 1, "0"},
		{"", 32, "0"},

		{"a", 1, "0,1 0,1+1"},
		{"a", 32, "0,1 0,1+1"},
		{"#a", 1, "0,1 0,1#1"},
		{"[^a]", 1, "1,0 1,0+1"},
		{"[\x00-\xff]{3}", 3, "1 2 3 3+3"},
		{"ab", 4, "0,1,0 0,1,2 0,1,0+2"},
		{"ba", 4, "0,0,1 0,2,1 0,0,1+2"},

		// Nothing but the empty word, which no state tells, or nothing at all.
		{none, 1, "0"},
		{none + "?", 32, "0"},
		{"#" + none + "?", 32, "0"},
		{none + "a", 2, "0,0"},
		{"a" + none, 2, "0,0"},
		{"a?", 1, "0,1 0,1+1"},
		{"#a?", 1, "0,1 0,1#1"},

		// States that are alike: in a rule, and of several.
		{"ac|bc", 4, "0,1,1,0 0,1,1,2 0,1,1,0+2"},
		{"ac bc", 4, "0,1,1,0 0,1,1,2 0,1,1,0+2"},
		{"#ac #bc", 4, "0,1,1,0 0,1,1,2 0,1,1,0#2"},
		{"ab|cb", 2, "0,1,0,1 0,1,2,1 0,1,0,1+2"},
		{"a|b", 1, "0,1,1 0,1,1+1"},
		{"a|b [ab]", 1, "0,1,1 0,1,1+1"},
		{"(a|b){3}", 3, "0,1,1 0,2,2 0,3,3 0,3,3+3"},
		{"x(ab|cb)", 3, "0,0,0,0,1 0,2,0,2,1 0,0,3,0,1 0,0,0,0,1+3"},
		{"a[ab]{2}", 3, "0,1,0 0,2,3 0,4,5 0,6,7 0,4,5+3 0,6,7+3 0,2,3+3 0,1,0+3"},

		// Each rule has the check, or hasn't, by itself.
		{"ac #bc", 4, "0,1,2,0 0,1,2,3 0,1,2,4 0,1,2,0+2 0,1,2,0#2"},
		{"#ac bc", 4, "0,1,2,0 0,1,2,3 0,1,2,4 0,1,2,0#2 0,1,2,0+2"},
		{"a #b", 1, "0,1,2 0,1,2+1 0,1,2#1"},
		{"a #b c", 1, "0,1,2,1 0,1,2,1+1 0,1,2,1#1"},
		{"#a b #c", 1, "0,1,2,1 0,1,2,1#1 0,1,2,1+1"},
		{"ab #ab", 2, "0,1,0 0,1,2 0,1,0+2#2"},
		{"#ab ab", 2, "0,1,0 0,1,2 0,1,0+2#2"},
		{"ab ab", 2, "0,1,0 0,1,2 0,1,0+2"},
		{"a #aa", 2, "0,1 0,2+1 0,2+1#2"},
		{"#a aa", 2, "0,1 0,2#1 0,2+2#1"},

		// Lambda below, at and above the length of a word. What is told at no length any more, makes states alike.
		{"ab", 1, "0,0,0"},
		{"ab", 2, "0,1,0 0,1,2 0,1,0+2"},
		{"abc", 2, "0,0,0,0"},
		{"a{2,3}", 1, "0,0"},
		{"a{2,3}", 2, "0,1 0,2 0,2+2"},
		{"a{2,3}", 3, "0,1 0,2 0,3+2 0,3+2,3"},
		{"a{2,3}", 4, "0,1 0,2 0,3+2 0,3+2,3"},
		{"[ab].", 1, "0,0,0"},
		{"abc b", 2, "0,0,1,0 0,0,1,0+1"},
		{"ab #ab c", 1, "0,0,0,1 0,0,0,1+1"},
	} {
		if got := shown(build(t, c.lambda, strings.Fields(c.rules)...)); got != c.want {
			t.Errorf("%q, lambda %d: %s, not %s", c.rules, c.lambda, got, c.want)
		}
	}
}

// Classes are those of all sets, also where no state needs to tell them apart.
func TestClasses(t *testing.T) {
	for _, c := range []struct {
		rules, want string
	}{
		{"", "1: 0>0"},
		{none, "1: 0>0"},
		{"a", "2: 0>0 97>1 98>0"},
		{"[^a]", "2: 0>0 97>1 98>0"},
		{"a|b", "3: 0>0 97>1 98>2 99>0"},
		{"b|a", "3: 0>0 97>1 98>2 99>0"},
		{"#b a", "3: 0>0 97>1 98>2 99>0"},
		{"[a-c][cd]", "4: 0>0 97>1 99>2 100>3 101>0"},
		{"[cd] #[a-c]", "4: 0>0 97>1 99>2 100>3 101>0"},
		{none + "a", "2: 0>0 97>1 98>0"},
		{"abcdefgh", "9: 0>0 97>1 98>2 99>3 100>4 101>5 102>6 103>7 104>8 105>0"},
		{"\x00 \xff", "3: 0>0 1>1 255>2"},
	} {
		if got := classed(build(t, 4, strings.Fields(c.rules)...)); got != c.want {
			t.Errorf("%q: %s, not %s", c.rules, got, c.want)
		}
	}
}

// wantMost wants a machine of so many states just where there may be as many as the machine had ahead of being made least.
func wantMost(t *testing.T, name string, l []mask.Rule, lambda, ahead, states int) {
	t.Helper()
	for _, most := range []int{1, states - 1, states, ahead - 1, ahead, ahead + 1, 1000} {
		if most < 1 || most > 1000 {
			continue
		}
		m, err := Build(l, lambda, most)
		name := name + ", most " + strconv.Itoa(most)
		if most < ahead {
			wantError(t, name, m, err, api.ErrBig)
		} else if err != nil || len(m.Next) != states || len(m.Out) != states {
			t.Errorf("%s: %v, %d Next, %d Out, not %d", name, err, len(m.Next), len(m.Out), states)
		}
	}
}

// States are counted while those that are alike aren't one by now.
func TestMost(t *testing.T) {
	for _, c := range []struct {
		rules                 string
		lambda, ahead, states int
	}{
		{"", 32, 1, 1}, {none + "?", 32, 1, 1}, {"a", 1, 2, 2}, {"ab", 1, 2, 1}, {"ab", 2, 3, 3}, {"a|b", 1, 3, 2},
		{"ac|bc", 4, 5, 3}, {"ac bc", 4, 5, 3}, {"ac #bc", 4, 5, 5}, {"a{32}", 31, 32, 1}, {"a{32}", 32, 33, 33},
		{"(a|b){8}", 8, 17, 9}, {"x(ab|cb)", 3, 6, 4}, {"[ab].{6}", 7, 128, 128}, {"[ab].{6}", 6, 64, 1}, {"(a|b|c|d|e|f|g|h){32}", 32, 257, 33},
	} {
		wantMost(t, c.rules, written(t, strings.Fields(c.rules)...), c.lambda, c.ahead, c.states)
	}
}

// Each rule here, so many times one byte, has as many states of its own.
func TestMostStates(t *testing.T) {
	var texts []string
	for i := range 31 {
		texts = append(texts, string(rune('A'+i%26+i/26*32))+"{32}")
	}
	for times := 6; times <= 8; times++ {
		l := written(t, append(texts, "#0{"+strconv.Itoa(times)+"}")...)
		wantMost(t, strconv.Itoa(times)+" of the last byte", l, 32, 993+times, 993+times)
	}
}

// eight is an Alt of eight bytes, so that 32 of them are the most places there may be.
const eight = "(a|b|c|d|e|f|g|h)"

// fitting are patterns of 256 places, that have no more than 257 states alone; large are such of more.
var fitting = []string{eight + "{32}", "a{32}{8}", "a{8}{32}", "a?{32}{8}", "a{0,32}{8}", "a{32}{7}b{31}c?", "a{2}{2}{2}{2}{2}{2}{2}{2}"}

var large = []string{
	eight + "{32}i", eight + "{32}i?", eight + "{32}|i", "i|" + eight + "{32}", "a{32}{9}", "a{32}{8}a", "a{32}{8}a?", "a?{32}{8}a", "a{0,32}{9}", "a{2}{2}{2}{2}{2}{2}{2}{2}b",
	"(ab){32}{5}", "a?{32}{32}{32}{32}{32}{32}{32}{32}{32}{32}{32}{32}{32}{32}{32}{32}", none + "{32}{9}", "(" + none + "?){32}{9}",
}

func TestTheMostPlaces(t *testing.T) {
	for _, text := range fitting {
		for _, texts := range [][]string{{text}, {"#" + text}, {"#" + text, text}} {
			if m, err := Build(written(t, texts...), 4, 1000); err != nil || len(m.Next) == 0 {
				t.Errorf("%q: %v", texts, err)
			}
		}
	}
	for _, text := range large {
		m, err := Build(written(t, text), 4, 1000)
		wantError(t, text, m, err, api.ErrBig)
		m, err = Build(written(t, "#"+text), 1, 1000)
		wantError(t, "#"+text, m, err, api.ErrBig)
	}
}

// Places are counted rule by rule: together there may be more.
func TestPlacesOfSeveralRules(t *testing.T) {
	// Of two bytes at most the third one alone has words.
	if got := shown(build(t, 2, "a{32}{8}", "#a{32}{8}", "a{0,32}{8}", "#b{2}a{31}{8}")); got != "0,1,0 0,2,0+1 0,2,0+1,2" {
		t.Error(got)
	}
}

// A rule that tells ErrLarge, wherever it stands, goes ahead of what may not be, and of too many states.
func TestTooManyPlacesAreToldFirst(t *testing.T) {
	for _, texts := range [][]string{
		{"(ab){32}{5}"}, {"a", "(ab){32}{5}"}, {"(ab){32}{5}", "a"}, {"a", "#b", "(ab){32}{5}", "#c"}, {"[ab].{31}", "#(ab){32}{5}"}, {"(ab){32}{5}", "(ab){32}{5}"},
		{"a", "b", "c", "d", "e", "f", "g", "h", "i", "a{32}{9}"},
	} {
		l := written(t, texts...)
		for _, lambda := range []int{math.MinInt, -1, 0, 1, 4, 32, 33, math.MaxInt} {
			for _, most := range []int{math.MinInt, -1, 0, 1, 10, 1000, 1001, math.MaxInt} {
				m, err := Build(l, lambda, most)
				wantError(t, strings.Join(texts, " ")+", lambda "+strconv.Itoa(lambda)+", most "+strconv.Itoa(most), m, err, api.ErrBig)
			}
		}
	}
}

// What may not be is told ahead of too many states, and with no rules as well.
func TestWhatMayNotBe(t *testing.T) {
	for _, text := range []string{"", "a", "ac|bc #a", "[ab].{31}", "a{32}{8}"} {
		l := written(t, strings.Fields(text)...)
		for _, c := range []struct {
			lambda, most int
		}{
			{0, 10}, {-1, 10}, {33, 10}, {34, 10}, {64, 10}, {256 + 4, 10}, {1<<32 + 4, 10}, {math.MinInt, 10}, {math.MaxInt, 10},
			{4, 0}, {4, -1}, {4, 1001}, {4, 1002}, {4, 1<<16 + 10}, {4, 1<<32 + 10}, {4, math.MinInt}, {4, math.MaxInt},
			{0, 1}, {33, 1}, {0, 1000}, {33, 1000}, {1, 0}, {32, 0}, {1, 1001}, {32, 1001}, {0, 0}, {33, 1001}, {1000, 32},
		} {
			m, err := Build(l, c.lambda, c.most)
			wantError(t, text+", lambda "+strconv.Itoa(c.lambda)+", most "+strconv.Itoa(c.most), m, err, api.ErrArg)
		}
	}
}

func TestTheEdgesOfWhatMayBe(t *testing.T) {
	for _, l := range [][]mask.Rule{nil, {}} {
		for _, lambda := range []int{1, 2, 31, 32} {
			for _, most := range []int{1, 2, 999, 1000} {
				m, err := Build(l, lambda, most)
				if err != nil || shown(m) != "0" || classed(m) != "1: 0>0" {
					t.Errorf("no rules, lambda %d, most %d: %v, %s, %s", lambda, most, err, shown(m), classed(m))
				}
			}
		}
	}
	for lambda := 1; lambda <= 32; lambda++ {
		fits := "a{" + strconv.Itoa(lambda) + "}"
		if m := build(t, lambda, fits, "#"+fits+"a"); len(m.Next) != lambda+1 || m.Out[lambda] != (api.Out{Plain: 1 << lambda}) {
			t.Errorf("%s: %s", fits, shown(m))
		}
	}
}

// P1: where there would be more states than can ever be gone through, that is told at once.
func TestFarTooManyStates(t *testing.T) {
	for _, texts := range [][]string{{"[ab].{31}"}, {"[ab]{2}.{30}"}, {"(ab|.){16}"}, {"x{32}", "#b?.{12}a"}, {"a", "#[ab][\x00-\xff]{29}[cd]"}} {
		m, err := Build(written(t, texts...), 32, 1000)
		wantError(t, strings.Join(texts, " "), m, err, api.ErrBig)
	}
}

// P1: a node nested deeper than Parse reads is a pattern, too.
func TestDeepPatterns(t *testing.T) {
	n := written(t, "a")[0].N
	for range 1 << 16 {
		n = api.Node{Op: api.Rep, Max: 1, Kids: []api.Node{n}}
	}
	m, err := Build([]mask.Rule{{N: n, Luhn: true}}, 32, 2)
	if err != nil || shown(m) != "0,1 0,1#1" {
		t.Error(err, shown(m))
	}
}

// However many rules there are, all count.
func TestManyRules(t *testing.T) {
	const many = 20000
	var l []mask.Rule
	for len(l) < many {
		l = append(l, written(t, "ab")...)
	}
	l[many-1] = written(t, "#[ab]b?")[0]
	m, err := Build(l, 2, 10)
	if err != nil || shown(m) != "0,1,2 0,1,3#1 0,1,4#1 0,1,4+2#1,2 0,1,4#1,2" {
		t.Error(err, shown(m))
	}
}

// cloned is a rule of its own memory.
func cloned(l []mask.Rule) []mask.Rule {
	l = slices.Clone(l)
	for i := range l {
		l[i].N = clonedNode(l[i].N)
	}
	return l
}

func clonedNode(n api.Node) api.Node {
	n.Kids = slices.Clone(n.Kids)
	for i, k := range n.Kids {
		n.Kids[i] = clonedNode(k)
	}
	return n
}

func spoilRules(l []mask.Rule) {
	for i := range l {
		spoilNode(&l[i].N)
		l[i].Luhn = !l[i].Luhn
	}
}

func spoilNode(n *api.Node) {
	for i := range n.Kids {
		spoilNode(&n.Kids[i])
	}
	*n = api.Node{Op: -1, Min: -1, Max: -1, Set: api.Set{7, 7, 7, 7}}
}

// spoil writes over all of m, and over what room there is behind its lists.
func spoil(m moore.Machine) {
	for _, row := range m.Next {
		spoilRow(row)
	}
	clear(m.Next[:cap(m.Next)])
	for i := range m.Out[:cap(m.Out)] {
		m.Out[:cap(m.Out)][i] = api.Out{Plain: 77, Luhn: 77}
	}
}

func spoilRow(row []int) {
	row = row[:cap(row)]
	for i := range row {
		row[i] = -7
	}
}

var several = []string{"", "a", "ab", "ac|bc", "ab #ab", "a{1,3} #[ab]", "(a|ab?){2,3} #b?c? x", "a?{4}{8}", "(a?b?|c){0,5}{2}d " + none + "?"}

// P16.2, as are all up to TestNoTwoRowsShare.
func TestWhatIsHandedInStaysAndIsForgotten(t *testing.T) {
	for _, text := range several {
		l := written(t, strings.Fields(text)...)
		was := cloned(l)
		m, err := Build(l, 8, 1000)
		first, firstClasses := shown(m), classed(m)
		if err != nil || !reflect.DeepEqual(l, was) {
			t.Errorf("%q: %v, or changed: %v", text, err, l)
		}
		spoilRules(l)
		if shown(m) != first || classed(m) != firstClasses {
			t.Errorf("%q is told otherwise when it is gone: %s, %s", text, shown(m), classed(m))
		}
		l = cloned(was)
		m, _ = Build(l, 8, 1000)
		spoil(m)
		if !reflect.DeepEqual(l, was) {
			t.Errorf("%q shares with what is told: %v", text, l)
		}
		again, err := Build(l, 8, 1000)
		if err != nil || shown(again) != first || classed(again) != firstClasses {
			t.Errorf("%q is told otherwise again: %v, %s, %s", text, err, shown(again), classed(again))
		}
	}
}

// With an error, too; and nothing is kept of it.
func TestWhatIsHandedInStaysWithAnError(t *testing.T) {
	for _, texts := range [][]string{{"(a|b){1,30}", "#[ab].{20}"}, {"#(ab){1,2}", "(ab){32}{5}", "#b"}} {
		l := written(t, texts...)
		was := cloned(l)
		for _, c := range [][2]int{{32, 1000}, {0, 1000}, {32, 0}, {32, 1}} {
			if _, err := Build(l, c[0], c[1]); err == nil {
				t.Errorf("%q: no error", texts)
			}
		}
		if !reflect.DeepEqual(l, was) {
			t.Errorf("%q are changed: %v", texts, l)
		}
	}
	if got := shown(build(t, 4, "ab")); got != "0,1,0 0,1,2 0,1,0+2" {
		t.Error(got)
	}
}

// Room behind the rules that are handed in is no part of them.
func TestRoomBehindStays(t *testing.T) {
	room := written(t, "a", "#b", "c")
	was := cloned(room)
	m, err := Build(room[:1], 4, 10)
	if err != nil || shown(m) != "0,1 0,1+1" || !reflect.DeepEqual(room, was) {
		t.Error(err, shown(m), room)
	}
}

func TestNoTwoRowsShare(t *testing.T) {
	for _, text := range several {
		want := build(t, 8, strings.Fields(text)...)
		for i := range want.Next {
			m := build(t, 8, strings.Fields(text)...)
			spoilRow(m.Next[i])
			m.Next[i] = want.Next[i]
			if shown(m) != shown(want) {
				t.Errorf("%q: row %d shares with another one: %s", text, i, shown(m))
			}
		}
	}
}

// P16.3.
func TestWords(t *testing.T) {
	for _, c := range []struct {
		rules  string
		lambda int
		word   string
		want   string
	}{
		{"", 32, "", ""},
		{"", 32, "abc", ""},
		{"a", 1, "", ""},
		{"a?", 1, "", ""},
		{"a?", 1, "b", ""},
		{"a", 1, "ba", "+1"},
		{"a", 1, "ab", ""},
		{"ab", 2, "aab", "+2"},
		{"ab", 1, "aab", ""},
		{"abab", 4, "ababab", "+4"},
		{"ababc", 5, "abababc", "+5"},
		{"a{2,4}", 3, "aaaaaa", "+2,3"},
		{"a{2,4}", 5, "aaaaaa", "+2,3,4"},
		{"b #ab cab", 3, "xcab", "+1,3#2"},
		{`#\d{2,3} 1`, 8, "x121", "+1#2,3"},
		{`#\d{4} \d{2}-`, 32, "x12-", "+3"},
		{"\x00\xff", 2, "\xff\x00\xff", "+2"},

		// The lengths are told of words of the pattern: whether they are Ok, this layer doesn't ask.
		{`#\d{16}`, 32, "4111111111111111", "#16"},
		{`#\d{16}`, 32, "4111111111111112", "#16"},
		{`#\d{16}`, 15, "4111111111111111", ""},
		{`#\d{4}(-\d{4}){3} \d{16}`, 32, "1234-5678-9012-3456", "#19"},

		{"a{31}", 32, strings.Repeat("a", 40), "+31"},
		{"a{32}", 32, strings.Repeat("a", 40), "+32"},
		{"a{32}", 31, strings.Repeat("a", 40), ""},
		{"a{32} #a{32}a", 32, strings.Repeat("a", 40), "+32"},
		{"#a{31}a?a?", 32, strings.Repeat("a", 40), "#31,32"},
	} {
		if got := told(moore.Run(build(t, c.lambda, strings.Fields(c.rules)...), []byte(c.word))); got != c.want {
			t.Errorf("%q, lambda %d, %q: %q, not %q", c.rules, c.lambda, c.word, got, c.want)
		}
	}
}
