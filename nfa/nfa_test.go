package nfa

import (
	"reflect"
	"slices"
	"strconv"
	"strings"
	"testing"

	"snaffle/api"
	"snaffle/rx"
	"snaffle/set"
)

func parse(t *testing.T, text string) api.Node {
	t.Helper()
	n, err := rx.Parse(text)
	if err != nil {
		t.Fatalf("%q: %v", text, err)
	}
	return n
}

func build(t *testing.T, n api.Node) Nfa {
	t.Helper()
	a, err := Build(n)
	if err != nil {
		t.Fatalf("%v: %v", n, err)
	}
	return a
}

// wantLarge wants ErrLarge, the Code itself, and nothing beside it.
func wantLarge(t *testing.T, name string, n api.Node) {
	t.Helper()
	a, err := Build(n)
	if code, ok := err.(api.Code); !ok || code != api.ErrLarge {
		t.Errorf("Build(%s): %v, not ErrLarge", name, err)
	}
	if !reflect.DeepEqual(a, Nfa{}) {
		t.Errorf("Build(%s) tells places beside its error: %v", name, a)
	}
}

func letter(b byte) api.Node { return api.Node{Op: api.One, Set: set.Range(b, b)} }

func of(op int, kids ...api.Node) api.Node { return api.Node{Op: op, Kids: kids} }

func rep(low, high int, kid api.Node) api.Node {
	return api.Node{Op: api.Rep, Min: low, Max: high, Kids: []api.Node{kid}}
}

func listed(places []int) string {
	var l []string
	for _, p := range places {
		l = append(l, strconv.Itoa(p))
	}
	return strings.Join(l, ",")
}

// shown writes places as their bytes, each with its Follow behind it, then First, Last, and Empty.
func shown(a Nfa) string {
	if len(a.Sets) != len(a.Follow) || len(a.Sets) != len(a.Last) {
		return "lists of " + listed([]int{len(a.Sets), len(a.Follow), len(a.Last)})
	}
	text := ""
	var last []int
	for p, s := range a.Sets {
		text += string(set.Bytes(s)) + ">" + listed(a.Follow[p]) + " "
		if a.Last[p] {
			last = append(last, p)
		}
	}
	text += "from " + listed(a.First) + " to " + listed(last)
	if a.Empty {
		text += " or nothing"
	}
	return text
}

// P4.1, as are all up to TestHasOfManyPlaces.
func TestBuild(t *testing.T) {
	for _, c := range []struct{ text, want string }{
		{"a", "a> from 0 to 0"},
		{"[a-c]", "abc> from 0 to 0"},
		{"[^\x00-\xff]", "> from 0 to 0"},

		{"ab", "a>1 b> from 0 to 1"},
		{"abc", "a>1 b>2 c> from 0 to 2"},
		{"a(bc)d", "a>1 b>2 c>3 d> from 0 to 3"},
		{"aa", "a>1 a> from 0 to 1"},
		{"a?b", "a>1 b> from 0,1 to 1"},
		{"ab?", "a>1 b> from 0 to 0,1"},
		{"ab?c", "a>1,2 b>2 c> from 0 to 2"},
		{"ab?c?d", "a>1,2,3 b>2,3 c>3 d> from 0 to 3"},
		{"ab?cd?e", "a>1,2 b>2 c>3,4 d>4 e> from 0 to 4"},
		{"a?b?cd", "a>1,2 b>2 c>3 d> from 0,1,2 to 3"},
		{"abc?d?", "a>1 b>2,3 c>3 d> from 0 to 1,2,3"},
		{"a?b?c?", "a>1,2 b>2 c> from 0,1,2 to 0,1,2 or nothing"},
		{"a?(b?c)d?", "a>1,2 b>2 c>3 d> from 0,1,2 to 2,3"},

		{"a|b", "a> b> from 0,1 to 0,1"},
		{"a|bc|d", "a> b>2 c> d> from 0,1,3 to 0,2,3"},
		{"a|b?", "a> b> from 0,1 to 0,1 or nothing"},
		{"a?|b", "a> b> from 0,1 to 0,1 or nothing"},
		{"(a|b)c?", "a>2 b>2 c> from 0,1 to 0,1,2"},
		{"(a|b?)c", "a>2 b>2 c> from 0,1,2 to 2"},
		{"a(b?|c)(d|e)", "a>1,2,3,4 b>3,4 c>3,4 d> e> from 0 to 3,4"},
		{"(ab|c?d)e", "a>1 b>4 c>3 d>4 e> from 0,2,3 to 4"},

		{"a?", "a> from 0 to 0 or nothing"},
		{"a??", "a> from 0 to 0 or nothing"},
		{"a{1}", "a> from 0 to 0"},
		{"a{3}", "a>1 a>2 a> from 0 to 2"},
		{"(ab){2}", "a>1 b>2 a>3 b> from 0 to 3"},
		{"(a|b){2}", "a>2,3 b>2,3 a> b> from 0,1 to 2,3"},
		{"(ab?){2}", "a>1,2 b>2 a>3 b> from 0 to 2,3"},
		{"(a?b){2}", "a>1 b>2,3 a>3 b> from 0,1 to 3"},
		{"a{1,2}", "a>1 a> from 0 to 0,1"},
		{"a{2,4}", "a>1 a>2 a>3 a> from 0 to 1,2,3"},
		{"a{1,3}b", "a>1,3 a>2,3 a>3 b> from 0 to 3"},
		{"ba{0,2}", "b>1 a>2 a> from 0 to 0,1,2"},

		// No copy is begun behind another one but the next, and only the first of them at the beginning.
		{"a{0,3}", "a>1 a>2 a> from 0 to 0,1,2 or nothing"},
		{"a{0,2}b", "a>1,2 a>2 b> from 0,2 to 2"},
		{"(ab){0,2}", "a>1 b>2 a>3 b> from 0 to 1,3 or nothing"},
		{"(ab){1,3}c", "a>1 b>2,6 a>3 b>4,6 a>5 b>6 c> from 0 to 6"},
		{"(a|b){0,2}", "a>2,3 b>2,3 a> b> from 0,1 to 0,1,2,3 or nothing"},

		// But where a copy may be nothing, behind it the ones behind that are begun, too.
		{"a?{2}", "a>1 a> from 0,1 to 0,1 or nothing"},
		{"a?{0,2}", "a>1 a> from 0,1 to 0,1 or nothing"},
		{"a?{1,3}", "a>1,2 a>2 a> from 0,1,2 to 0,1,2 or nothing"},
		{"a?{2}b", "a>1,2 a>2 b> from 0,1,2 to 2"},
		{"(a?b?){2}", "a>1,2,3 b>2,3 a>3 b> from 0,1,2,3 to 0,1,2,3 or nothing"},
		{"(a|b?){1,2}c", "a>2,3,4 b>2,3,4 a>4 b>4 c> from 0,1,2,3,4 to 4"},
		{"a{0,2}{2}", "a>1,2 a>2 a>3 a> from 0,2 to 0,1,2,3 or nothing"},
		{"a{0,2}{0,2}", "a>1,2 a>2 a>3 a> from 0,2 to 0,1,2,3 or nothing"},

		{"a{1,2}{2}", "a>1,2 a>2 a>3 a> from 0 to 2,3"},
		{"a{1,2}{1,2}", "a>1,2 a>2 a>3 a> from 0 to 0,1,2,3"},
		{"a{2}?", "a>1 a> from 0 to 1 or nothing"},
		{"a{2}{2}", "a>1 a>2 a>3 a> from 0 to 3"},
		{"(a{2}|b){0,2}", "a>1 a>3,5 b>3,5 a>4 a> b> from 0,2 to 1,2,4,5 or nothing"},
		{"(a(bc?){1,2}){2}", "a>1 b>2,3,5 c>3,5 b>4,5 c>5 a>6 b>7,8 c>8 b>9 c> from 0 to 6,7,8,9"},
	} {
		if got := shown(build(t, parse(t, c.text))); got != c.want {
			t.Errorf("Build(%q): %s, not %s", c.text, got, c.want)
		}
	}
}

func TestMostPlaces(t *testing.T) {
	for _, text := range []string{
		"(ab){32}{4}", "a{32}{8}", "a{0,32}{0,8}", "a?{32}{8}", "a?{2,32}{1,8}", "(a|b){2,32}{4}",
		"(a{32}{7}|b{31})c", "a{32}b{32}{7}", "(a{15}b?){16}", "a{2}{2}{2}{2}{2}{2}{2}{2}",
		"a{0,2}{0,2}{0,2}{0,2}{0,2}{0,2}{0,2}{0,2}", "a{32}{1}{1,8}{1}", "(((ab|c)d|e{4}){16}){2}",
	} {
		n := parse(t, text)
		a := build(t, n)
		if len(a.Sets) != 256 || len(a.Last) != 256 || len(a.Follow) != 256 {
			t.Errorf("%q: lists of %d, %d, %d", text, len(a.Sets), len(a.Last), len(a.Follow))
		}
		// With one place more, wherever it stands, there are too many.
		wantLarge(t, text+" and z", of(api.Cat, n, letter('z')))
		wantLarge(t, "z and "+text, of(api.Cat, letter('z'), n))
		wantLarge(t, text+" and z?", of(api.Cat, n, rep(0, 1, letter('z'))))
		wantLarge(t, text+" or z", of(api.Alt, n, letter('z')))
		wantLarge(t, "z or "+text, of(api.Alt, letter('z'), n))
		wantLarge(t, text+" twice", rep(2, 2, n))
		wantLarge(t, text+" up to twice", rep(0, 2, n))
	}
	for _, text := range []string{"(ab?){32}{4}c", "a{0,32}{9}", "a{1,32}{1,9}", "a{0,17}{0,16}", "(a|b){8}{8}{3}", "a{32}{32}"} {
		wantLarge(t, text, parse(t, text))
	}
}

func TestManyKids(t *testing.T) {
	for _, size := range []int{254, 255, 256, 257, 258, 512, 1 << 16} {
		kids := make([]api.Node, size)
		for i := range kids {
			kids[i] = letter(byte(i))
		}
		if size > 256 {
			wantLarge(t, "a Cat of many", of(api.Cat, kids...))
			wantLarge(t, "an Alt of many", of(api.Alt, kids...))
			continue
		}
		cat, alt := build(t, of(api.Cat, kids...)), build(t, of(api.Alt, kids...))
		if len(cat.Sets) != size || listed(cat.First) != "0" || len(alt.Sets) != size || len(alt.First) != size {
			t.Errorf("of %d kids: %v, %v", size, cat, alt)
		}
		for p := range size {
			own, behind := set.Range(byte(p), byte(p)), []int{p + 1}
			if p == size-1 {
				behind = nil
			}
			if cat.Sets[p] != own || cat.Last[p] != (p == size-1) || !slices.Equal(cat.Follow[p], behind) {
				t.Errorf("a Cat of %d, place %d: %x, %v, %v", size, p, cat.Sets[p], cat.Last[p], cat.Follow[p])
			}
			if alt.Sets[p] != own || alt.First[p] != p || !alt.Last[p] || len(alt.Follow[p]) != 0 {
				t.Errorf("an Alt of %d, place %d: %x, %v, %v", size, p, alt.Sets[p], alt.Last[p], alt.Follow[p])
			}
		}
	}
}

// P1: copies of copies are told to be too many, rather than made.
func TestNestedRepetitions(t *testing.T) {
	for _, text := range []string{
		"a" + strings.Repeat("{32}", 49), "a?" + strings.Repeat("{32}", 49), "a" + strings.Repeat("{0,32}", 33),
		"(a|b?c)" + strings.Repeat("{1,32}", 32), "a" + strings.Repeat("{2}", 66), strings.Repeat("(a|", 20) + "a" + strings.Repeat("){32}", 20),
	} {
		wantLarge(t, text, parse(t, text))
	}
	for text, want := range map[string]string{
		"a" + strings.Repeat("?", 199):     "a> from 0 to 0 or nothing",
		"a" + strings.Repeat("{1}", 66):    "a> from 0 to 0",
		"ab" + strings.Repeat("{0,1}", 39): "a>1 b> from 0 to 0,1",
	} {
		if got := shown(build(t, parse(t, text))); got != want {
			t.Errorf("Build(%q): %s, not %s", text, got, want)
		}
	}
}

// P1: patterns may be deeper than Parse reads them.
func TestDeepPatterns(t *testing.T) {
	must, may, twice, split, both := letter('a'), letter('a'), letter('a'), letter('a'), letter('a')
	for range 1 << 16 {
		must, may, twice = rep(1, 1, must), rep(0, 1, may), rep(0, 2, twice)
		both = of(api.Alt, both, both)
	}
	for range 255 {
		split = rep(0, 1, of(api.Cat, letter('b'), split))
	}
	if got := shown(build(t, must)); got != "a> from 0 to 0" {
		t.Error("once, and so on:", got)
	}
	if got := shown(build(t, may)); got != "a> from 0 to 0 or nothing" {
		t.Error("a?, and so on:", got)
	}
	if a := build(t, of(api.Cat, rep(0, 32, may), must)); len(a.Sets) != 33 || len(a.First) != 33 {
		t.Error("copies of what is deep:", shown(a))
	}
	if a := build(t, split); len(a.Sets) != 256 || listed(a.First) != "0" || !a.Empty || !Has(a, []byte("bb"+strings.Repeat("b", 253)+"a")) {
		t.Error("b and so on, or nothing:", shown(a))
	}
	wantLarge(t, "b and so on", of(api.Cat, letter('b'), split))
	wantLarge(t, "twice, and so on", twice)
	wantLarge(t, "both, and so on", both)
}

func TestHas(t *testing.T) {
	for _, c := range []struct {
		text    string
		in, out []string
	}{
		{"a", []string{"a"}, []string{"", "b", "aa", "A"}},
		{"[^a]", []string{"b", "\x00", "\xff"}, []string{"", "a", "bb"}},
		{"[^\x00-\xff]", nil, []string{"", "a", "\x00", "\xff"}},
		{"[^\x00-\xff]?b", []string{"b"}, []string{"", "ab", "bb"}},
		{"abc", []string{"abc"}, []string{"", "a", "ab", "bc", "abcc", "abcabc", "acb"}},
		{"a|bc", []string{"a", "bc"}, []string{"", "b", "c", "ac", "abc", "bca"}},
		{"a?", []string{"", "a"}, []string{"aa", "b"}},
		{"a?b?", []string{"", "a", "b", "ab"}, []string{"ba", "aa", "abb"}},
		{"a|b?", []string{"", "a", "b"}, []string{"ab"}},
		{"a{3}", []string{"aaa"}, []string{"", "a", "aa", "aaaa", "aab"}},
		{"a{0,2}", []string{"", "a", "aa"}, []string{"aaa", "b", "ab"}},
		{"a{2,3}", []string{"aa", "aaa"}, []string{"", "a", "aaaa"}},
		{"(a?b){2}|c", []string{"bb", "abb", "bab", "abab", "c"}, []string{"", "b", "ab", "aabb", "cb", "cc"}},
		{"(a?b){0,2}", []string{"", "b", "ab", "bb", "abb", "bab", "abab"}, []string{"a", "bbb", "aab"}},
		{"a{2}{1,3}", []string{"aa", "aaaa", "aaaaaa"}, []string{"", "a", "aaa", "aaaaa", "aaaaaaaa"}},
		{"(a{3}|a{5}){2}", []string{"aaaaaa", "aaaaaaaa", "aaaaaaaaaa"}, []string{"aaa", "aaaaa", "aaaaaaa", "aaaaaaaaa"}},
		// Here words can go several ways, and the one that is tried first isn't the one that ends.
		{"(a|ab)(c|bc)", []string{"ac", "abc", "abbc"}, []string{"ab", "abcc", "abb"}},
		{"(a|ab|b)(b|ba|a)(a|b)", []string{"aba", "abab", "abbaa", "baa"}, []string{"ab", "abbaab", "ababb"}},
		{"a?a?a?aaa", []string{"aaa", "aaaa", "aaaaa", "aaaaaa"}, []string{"aa", "aaaaaaa", "aabaa"}},
		{"ab|ac|a", []string{"a", "ab", "ac"}, []string{"", "b", "abc"}},
		{"(a?b?){2,3}", []string{"", "a", "ba", "bba", "ababab"}, []string{"abababa", "bbbb", "bababab"}},
	} {
		a := build(t, parse(t, c.text))
		for _, w := range c.in {
			if !Has(a, []byte(w)) {
				t.Errorf("%q hasn't %q", c.text, w)
			}
		}
		for _, w := range c.out {
			if Has(a, []byte(w)) {
				t.Errorf("%q has %q", c.text, w)
			}
		}
		if Has(a, nil) != Has(a, []byte{}) {
			t.Errorf("%q has no bytes in one way only", c.text)
		}
	}
}

// P1: words end in time, too, where there are more ways than can be gone one by one.
func TestHasOfManyPlaces(t *testing.T) {
	for _, c := range []struct {
		text        string
		least, most int
	}{
		{"a{32}{8}", 256, 256}, {"a{0,32}{0,8}", 0, 256}, {"a?{32}{8}", 0, 256}, {"a{1,32}{8}", 8, 256}, {"a{16,32}{4,8}", 64, 256},
	} {
		a := build(t, parse(t, c.text))
		for _, size := range []int{0, 1, 7, 8, 9, 63, 64, 65, 128, 255, 256, 257, 300, 1000, 1 << 22} {
			w := []byte(strings.Repeat("a", size))
			if want := c.least <= size && size <= c.most; Has(a, w) != want {
				t.Errorf("%q, %d times a: not %v", c.text, size, want)
			}
			if size > 0 {
				w[size-1] = 'b'
				if Has(a, w) {
					t.Errorf("%q has %d bytes, the last one b", c.text, size)
				}
			}
		}
	}
}

func clone(n api.Node) api.Node {
	kids := n.Kids
	n.Kids = nil
	for _, kid := range kids {
		n.Kids = append(n.Kids, clone(kid))
	}
	return n
}

// spoil writes over all of n.
func spoil(n *api.Node) {
	for i := range n.Kids {
		spoil(&n.Kids[i])
	}
	*n = letter('z')
}

// spoilPlaces writes over all of a, and over what room there is behind its lists.
func spoilPlaces(a Nfa) {
	for _, l := range append([][]int{a.First}, a.Follow...) {
		spoilList(l)
	}
	clear(a.Sets[:cap(a.Sets)])
	clear(a.Last[:cap(a.Last)])
	clear(a.Follow[:cap(a.Follow)])
}

func spoilList(l []int) {
	l = l[:cap(l)]
	for i := range l {
		l[i] = -7
	}
}

var several = []string{"a", "ab", "a|b", "(a|b)c", "a?", "a{1,2}", "a{2,4}", "(a|ab?){2,3}{0,4}c?", "a?{4}{8}", "(a?|b?c?){3}", "(a?b?|c){0,5}{2}d"}

// P4.2, as is the next one.
func TestWhatIsHandedInStaysAndIsForgotten(t *testing.T) {
	for _, text := range several {
		n := parse(t, text)
		was := clone(n)
		a := build(t, n)
		first := shown(a)
		if !reflect.DeepEqual(n, was) {
			t.Errorf("%q is changed: %v", text, n)
		}
		room := []byte("xaabax")
		w := room[1:4]
		has := Has(a, w)
		if string(room) != "xaabax" || shown(a) != first {
			t.Errorf("Has changes %q, %s", room, shown(a))
		}
		spoil(&n)
		copy(room, "zzzzzz")
		if shown(a) != first || Has(a, []byte("aab")) != has {
			t.Errorf("%q is told otherwise when it is gone: %s", text, shown(a))
		}
		spoilPlaces(a)
		if again := build(t, was); shown(again) != first || Has(again, []byte("aab")) != has {
			t.Errorf("%q is told otherwise again: %s", text, shown(again))
		}
	}
}

func TestNoTwoListsShare(t *testing.T) {
	for _, text := range several {
		want := build(t, parse(t, text))
		for i := range len(want.Follow) + 1 {
			a := build(t, parse(t, text))
			if i < len(a.Follow) {
				spoilList(a.Follow[i])
				a.Follow[i] = want.Follow[i]
			} else {
				spoilList(a.First)
				a.First = want.First
			}
			if shown(a) != shown(want) {
				t.Errorf("%q: list %d shares with another one: %s", text, i, shown(a))
			}
		}
	}
}
