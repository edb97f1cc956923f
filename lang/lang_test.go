package lang

import (
	"bytes"
	"reflect"
	"strings"
	"testing"

	"snaffle/api"
	"snaffle/rx"
)

func parse(t *testing.T, text string) api.Node {
	t.Helper()
	n, err := rx.Parse(text)
	if err != nil {
		t.Fatalf("%q: %v", text, err)
	}
	return n
}

func setOf(text string) api.Set {
	var s api.Set
	for _, b := range []byte(text) {
		s[b/64] |= 1 << (b % 64)
	}
	return s
}

func one(text string) api.Node { return api.Node{Op: api.One, Set: setOf(text)} }

func of(op int, kids ...api.Node) api.Node { return api.Node{Op: op, Kids: kids} }

func rep(low, high int, kid api.Node) api.Node {
	return api.Node{Op: api.Rep, Min: low, Max: high, Kids: []api.Node{kid}}
}

func wantHas(t *testing.T, name string, n api.Node, w string, want bool) {
	t.Helper()
	if got := Has(n, []byte(w)); got != want {
		t.Errorf("Has(%s, %q) is %v", name, w, got)
	}
}

// allBytes are all of them, rising.
func allBytes() string {
	b := make([]byte, 256)
	for i := range b {
		b[i] = byte(i)
	}
	return string(b)
}

// P3.1, as are all up to TestAny.
func TestHas(t *testing.T) {
	for _, c := range []struct {
		text    string
		in, out []string
	}{
		{"a", []string{"a"}, []string{"", "b", "aa", "A"}},
		{"[a-c]", []string{"a", "b", "c"}, []string{"", "d", "`", "ab"}},
		{"[^a]", []string{"b", "\n", "\x00", "\xff"}, []string{"", "a", "bb"}},
		{".", []string{"a", "\x00", "\xff"}, []string{"", "\n"}},
		{"abc", []string{"abc"}, []string{"", "a", "ab", "abcd", "bc", "acb", "xabc"}},
		{"a|b", []string{"a", "b"}, []string{"", "ab", "ba", "|", "a|b"}},
		{"a|bc|def", []string{"a", "bc", "def"}, []string{"", "b", "c", "ac", "de", "abc", "abcdef"}},
		{"a?", []string{"", "a"}, []string{"aa", "b"}},
		{"a{3}", []string{"aaa"}, []string{"", "a", "aa", "aaaa", "aab"}},
		{"a{2,3}", []string{"aa", "aaa"}, []string{"", "a", "aaaa", "aab"}},
		{"a{0,2}", []string{"", "a", "aa"}, []string{"aaa", "b"}},
		{"a{1,32}", []string{"a", strings.Repeat("a", 32)}, []string{"", strings.Repeat("a", 33)}},
		{"(ab|c){2}", []string{"abab", "abc", "cab", "cc"}, []string{"", "ab", "c", "ccc", "aabb", "ababab"}},
		{"(a|ab)(c|bc)", []string{"ac", "abc", "abbc"}, []string{"ab", "abcc", "abb", "c"}},
		{"(a|ab|b)(b|ba|a)(a|b)", []string{"aba", "abab", "abbaa", "baa", "bbaa"}, []string{"ab", "abbaab", "ababb"}},
		{"a?a?a?aaa", []string{"aaa", "aaaa", "aaaaa", "aaaaaa"}, []string{"aa", "aaaaaaa", "aabaa"}},
		{"(a{2,3}){2}", []string{"aaaa", "aaaaa", "aaaaaa"}, []string{"aaa", "aaaaaaa"}},
		{"a{2}{3}", []string{"aaaaaa"}, []string{"aaaa", "aaaaa", "aaaaaaa"}},
		{"a{2}{1,3}", []string{"aa", "aaaa", "aaaaaa"}, []string{"", "a", "aaa", "aaaaa", "aaaaaaaa"}},
		{"(a{3}|a{5}){2}", []string{"aaaaaa", "aaaaaaaa", "aaaaaaaaaa"}, []string{"aaa", "aaaaa", "aaaaaaa", "aaaaaaaaa"}},
		{"(a?b){2}", []string{"bb", "abb", "bab", "abab"}, []string{"ab", "aab", "ababab"}},
		{"(a?b?){2,3}", []string{"", "a", "b", "ba", "baba", "bba", "ababab"}, []string{"abababa", "bbbb", "bababab"}},
		{"(a|b?)c{0,2}", []string{"", "a", "b", "c", "acc", "bcc"}, []string{"ab", "accc", "cca"}},
		{"a?|b", []string{"", "a", "b"}, []string{"ab"}},
		{"\\d{4}(-\\d{4}){3}", []string{"1234-5678-9012-3456"}, []string{"1234-5678-9012", "1234-5678-9012-345", "1234_5678_9012_3456"}},
	} {
		n := parse(t, c.text)
		for _, w := range c.in {
			wantHas(t, c.text, n, w, true)
		}
		for _, w := range c.out {
			wantHas(t, c.text, n, w, false)
		}
	}
}

func TestHasOfOneIsItsSet(t *testing.T) {
	for _, in := range []string{"", "\x00", "\xff", "?@\x7f\x80\xbf\xc0", "az09", allBytes()} {
		n := one(in)
		for _, b := range []byte(allBytes()) {
			wantHas(t, "a One", n, string([]byte{b}), strings.IndexByte(in, b) >= 0)
			wantHas(t, "a One", n, string([]byte{b, b}), false)
		}
	}
}

func TestTheEmptyWord(t *testing.T) {
	for _, c := range []struct {
		text string
		want bool
	}{
		{"a", false}, {"ab", false}, {"a|b", false}, {"a{2}", false}, {"a{1,2}", false},
		{"a?", true}, {"a{0,5}", true}, {"a?b?", true}, {"a?b", false}, {"ab?", false},
		{"a|b?", true}, {"a?|b", true}, {"a?{3}", true}, {"(a?|b){3}", true}, {"(a?b){0,3}", true}, {"(a?b){3}", false},
		{"[^\x00-\xff]", false}, {"[^\x00-\xff]?", true},
	} {
		n := parse(t, c.text)
		if Has(n, nil) != c.want || Has(n, []byte{}) != c.want {
			t.Errorf("the empty word of %q: not %v", c.text, c.want)
		}
		if (Least(n) == 0) != c.want {
			t.Errorf("Least(%q) is %d", c.text, Least(n))
		}
	}
}

// A One of no bytes has no word, and so has nothing that needs one.
func TestNoWordAtAll(t *testing.T) {
	none := one("")
	for _, w := range []string{"", "a", "aa", "ab", "aaa"} {
		wantHas(t, "none", none, w, false)
		wantHas(t, "none and a", of(api.Cat, one("a"), none), w, false)
		wantHas(t, "none, 2 to 3", rep(2, 3, none), w, false)
		wantHas(t, "none, 0 to 3", rep(0, 3, none), w, w == "")
		wantHas(t, "none or a", of(api.Alt, none, one("a")), w, w == "a")
	}
	if Least(none) != 1 || Most(none) != 1 || Least(rep(2, 3, none)) != 2 || Most(rep(2, 3, none)) != 3 || Any(none) != (api.Set{}) {
		t.Error("a One of no bytes is not as long as any One")
	}
}

func TestLeastAndMost(t *testing.T) {
	for _, c := range []struct {
		text        string
		least, most int
	}{
		{"a", 1, 1}, {"[^a]", 1, 1}, {"abc", 3, 3},
		{"a|bc", 1, 2}, {"bc|a", 1, 2}, {"ab|c?|def", 0, 3}, {"abc|ab", 2, 3},
		{"a?", 0, 1}, {"a{3}", 3, 3}, {"a{2,3}", 2, 3}, {"a{0,32}", 0, 32}, {"(ab){2,3}", 4, 6},
		{"(a|bcd){2,3}", 2, 9}, {"(a?b){2}", 2, 4}, {"a{2,3}{4,5}", 8, 15}, {"a?{3}", 0, 3}, {"a{3}?", 0, 3},
		{"a{2}(b|cd?)e{0,7}", 3, 11},
		{"(a{27}){27}{1}b{27}{10}", 999, 999},
		{"a{25}{20}{2}", 1000, 1000}, {"a{25}{20}{2}b?", 1000, 1000}, {"a{25}{20}{2}b", 1000, 1000}, {"a{31}{32}b{7}", 999, 999},
		{"a{31}{32}b{8}", 1000, 1000}, {"a{31}{32}b{9}", 1000, 1000}, {"a{31}{32}b{7,8}", 999, 1000}, {"a{31}{32}b{7,9}", 999, 1000},
		{"a{32}{32}", 1000, 1000}, {"a{32}{32}?", 0, 1000}, {"a{32}{32}|b", 1, 1000}, {"b|a{32}{32}", 1, 1000},
		{"a{32}{32}|b{32}{32}", 1000, 1000}, {"a{32}{32}{0,3}b", 1, 1000}, {"(a{32}{32}|b){3}", 3, 1000},
		{"a{32}{32}b{32}{32}", 1000, 1000}, {"a{1,32}{1,32}", 1, 1000}, {"a{31}{1,32}", 31, 992},
		{"a" + strings.Repeat("{32}", 49), 1000, 1000},
		{"a?" + strings.Repeat("{32}", 49), 0, 1000},
		{"a" + strings.Repeat("{32}", 48) + "?", 0, 1000},
	} {
		n := parse(t, c.text)
		if Least(n) != c.least || Most(n) != c.most {
			t.Errorf("Least and Most of %q: %d, %d, not %d, %d", c.text, Least(n), Most(n), c.least, c.most)
		}
	}
}

// What Most tells is no bound for Has, where it is 1000.
func TestWordsOfMoreThanAThousandBytes(t *testing.T) {
	for _, c := range []struct {
		text    string
		in, out []int
	}{
		{"a{32}{32}", []int{1024}, []int{0, 32, 992, 999, 1000, 1001, 1023, 1025, 2048}},
		{"a{1,32}{32}", []int{32, 999, 1000, 1001, 1024}, []int{31, 1025}},
		{"a?{32}{32}{32}", []int{0, 1, 1000, 1024, 5000}, []int{32769}},
		{"a{31}{1,32}{2,3}", []int{62, 1023, 2976}, []int{61, 63, 1000, 2977, 3007}},
		{"a{32}{32}{32}", []int{32768}, []int{1000, 32767, 32769}},
	} {
		n := parse(t, c.text)
		for _, size := range c.in {
			if !Has(n, bytes.Repeat([]byte("a"), size)) {
				t.Errorf("%q hasn't %d times a", c.text, size)
			}
			if size > 0 && Has(n, append(bytes.Repeat([]byte("a"), size-1), 'b')) {
				t.Errorf("%q has %d times a, and b", c.text, size-1)
			}
		}
		for _, size := range c.out {
			if Has(n, bytes.Repeat([]byte("a"), size)) {
				t.Errorf("%q has %d times a", c.text, size)
			}
		}
	}
}

func TestAny(t *testing.T) {
	for _, c := range []struct{ text, want string }{
		{"a", "a"}, {"[a-c]", "abc"}, {"abc", "abc"}, {"a|bc", "abc"}, {"aaa", "a"},
		{"a?", "a"}, {"(ab?){2,3}", "ab"}, {"a[bc]|(d?-){2}", "abcd-"},
		{"\\d{0,1}", "0123456789"}, {"(a|(b|(c|(d?)?){2})e)f", "abcdef"},
		{"[^\x00-\xff]", ""}, {"[^\x00-\xff]a", "a"}, {"[\x00-\xff]", allBytes()}, {"[^a]|a", allBytes()},
		{"\x00|\x7f|\x80|\xff", "\x00\x7f\x80\xff"},
		{".", strings.Replace(allBytes(), "\n", "", 1)},
	} {
		if got := Any(parse(t, c.text)); got != setOf(c.want) {
			t.Errorf("Any(%q) is %x", c.text, got)
		}
	}
}

// P1: what is nested is gone through in time, however many ways there are to part a word.
func TestNestedRepetitions(t *testing.T) {
	for _, c := range []struct {
		text    string
		in, out []int
	}{
		{"a?" + strings.Repeat("{32}", 10), []int{0, 1, 32, 33, 1000}, nil},
		{"a?" + strings.Repeat("{32}", 49), []int{0, 1, 32, 33, 1000}, nil},
		{"a" + strings.Repeat("{32}", 49), nil, []int{0, 1, 32, 1000}},
		{"a" + strings.Repeat("?", 199), []int{0, 1}, []int{2, 100}},
		{"a" + strings.Repeat("{0,32}", 33), []int{0, 1, 32, 200}, nil},
		{"a" + strings.Repeat("{1,32}", 33), []int{1, 32, 200}, []int{0}},
		{"a" + strings.Repeat("{2,32}", 10), []int{1024, 1025}, []int{0, 1, 32, 1023}},
		{"a" + strings.Repeat("{2,3}", 6), []int{64, 65, 96, 729}, []int{63, 730}},
		{"(a|aa)" + strings.Repeat("{1,32}", 32), []int{1, 2, 32, 200}, []int{0}},
		{strings.Repeat("(a|", 20) + "a" + strings.Repeat("){32}", 20), []int{32, 63, 187}, []int{0, 31, 33, 200}},
		{strings.Repeat("(a?", 20) + "a" + strings.Repeat("){1,9}", 20), []int{1, 2, 100}, []int{0}},
	} {
		n := parse(t, c.text)
		for _, size := range c.in {
			if !Has(n, bytes.Repeat([]byte("a"), size)) {
				t.Errorf("%q hasn't %d times a", c.text, size)
			}
			if size > 0 && Has(n, append(bytes.Repeat([]byte("a"), size-1), 'b')) {
				t.Errorf("%q has %d times a, and b", c.text, size-1)
			}
		}
		for _, size := range c.out {
			if Has(n, bytes.Repeat([]byte("a"), size)) {
				t.Errorf("%q has %d times a", c.text, size)
			}
		}
	}
}

// P1: patterns may be deeper than Parse reads them.
func TestDeepPatterns(t *testing.T) {
	may, must, split := one("a"), one("a"), one("a")
	for range 1 << 16 {
		may, must = rep(0, 2, may), rep(1, 1, must)
	}
	for range 1 << 14 {
		split = of(api.Alt, of(api.Cat, one("b"), split), one("a"))
	}
	for _, w := range []string{"", "a", "aa", "aab"} {
		wantHas(t, "may", may, w, w != "aab")
		wantHas(t, "must", must, w, w == "a")
		wantHas(t, "split", split, w, w == "a")
		wantHas(t, "split", split, "bb"+w, w == "a")
	}
	if Least(may) != 0 || Most(may) != 1000 || Least(must) != 1 || Most(must) != 1 || Any(may) != setOf("a") {
		t.Error(Least(may), Most(may), Least(must), Most(must), Any(may))
	}
	if Least(split) != 1 || Most(split) != 1000 || Any(split) != setOf("ab") {
		t.Error(Least(split), Most(split), Any(split))
	}
}

func clone(n api.Node) api.Node {
	kids := n.Kids
	n.Kids = nil
	for _, kid := range kids {
		n.Kids = append(n.Kids, clone(kid))
	}
	return n
}

func spoil(n *api.Node) {
	for i := range n.Kids {
		spoil(&n.Kids[i])
	}
	*n = one("z")
}

// P3.2.
func TestWhatIsHandedInStaysAndIsForgotten(t *testing.T) {
	for _, text := range []string{"a", "ab", "a|b", "a{1,2}", "(a|ab?){2,3}{0,4}c?", "a?{32}{32}"} {
		n := parse(t, text)
		was := clone(n)
		room := []byte("xaabax")
		w := room[1:4]
		has, least, most, any := Has(n, w), Least(n), Most(n), Any(n)
		if !reflect.DeepEqual(n, was) {
			t.Errorf("%q is changed: %v", text, n)
		}
		if string(room) != "xaabax" {
			t.Errorf("a word is changed: %q", room)
		}
		spoil(&n)
		copy(room, "zzzzzz")
		if Has(was, []byte("aab")) != has || Least(was) != least || Most(was) != most || Any(was) != any {
			t.Errorf("%q is told otherwise when the first one is gone", text)
		}
		if !Has(n, room[:1]) || Has(n, w) || Least(n) != 1 || Most(n) != 1 || Any(n) != setOf("z") {
			t.Errorf("of %q something was kept", text)
		}
	}
}
