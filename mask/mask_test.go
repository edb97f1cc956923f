package mask

import (
	"bytes"
	"math"
	"strings"
	"testing"

	"snaffle/api"
	"snaffle/rx"
)

func parse(t *testing.T, text string) api.Node {
	t.Helper()
	n, err := rx.Parse(text)
	if err != nil {
		t.Fatalf("%q: %v", text, err)
	}
	return n
}

// rulesOf reads rules, parted by spaces; one that begins with # has the check.
func rulesOf(t *testing.T, text string) []Rule {
	t.Helper()
	var l []Rule
	for _, s := range strings.Fields(text) {
		pattern, check := strings.CutPrefix(s, "#")
		l = append(l, Rule{N: parse(t, pattern), Luhn: check})
	}
	return l
}

// wantHidden wants hidden to be exactly what has a * in want, of Cover and of Mask.
func wantHidden(t *testing.T, name string, l []Rule, lambda int, x, want string) {
	t.Helper()
	cover := Cover(l, lambda, []byte(x))
	if len(cover) != len(want) {
		t.Fatalf("%s, lambda %d, %q: Cover has %d, not %d", name, lambda, x, len(cover), len(want))
	}
	for i, hidden := range cover {
		if hidden != (want[i] == '*') {
			t.Errorf("%s, lambda %d, %q: Cover tells %v of byte %d, but %q is wanted", name, lambda, x, hidden, i, want)
		}
	}
	if y := Mask(l, lambda, '*', []byte(x)); string(y) != want {
		t.Errorf("%s, lambda %d, %q: Mask tells %q, not %q", name, lambda, x, y, want)
	}
}

// P9.1, as are all up to TestManyBytes.
func TestFits(t *testing.T) {
	for _, c := range []struct {
		rule    string
		in, out []string
	}{
		{"ab", []string{"ab"}, []string{"", "a", "b", "abc", "xab", "abab"}},
		{"a?", []string{"", "a"}, []string{"b", "aa"}},
		{"a|bc{2}", []string{"a", "bcc"}, []string{"", "bc", "ac", "abcc"}},
		{`\d{2}`, []string{"18", "19", "00"}, []string{"", "1", "018", "1a"}},
		{"a{1,32}{32}", []string{strings.Repeat("a", 32), strings.Repeat("a", 1024)}, []string{strings.Repeat("a", 1025)}},

		// With the check both are asked for: a word of the pattern, and Ok.
		{`#\d{2}`, []string{"18", "00", "91"}, []string{"", "1", "0", "19", "17", "018", "182", "1-8"}},
		{`#\d{2,3}`, []string{"18", "182", "018"}, []string{"180", "1820", "8"}},
		{`#\d-\d`, []string{"1-8", "0-0"}, []string{"1-9", "18", "1--8", "1 8"}},
		{`#\w{3,4}`, []string{"1a8", "ab18", "_18"}, []string{"abc", "1ab", "18", "1a9", "a-18"}},
		{`#\d{16}`, []string{"4111111111111111"}, []string{"4111111111111112", "411111111111111", "4111-1111-1111-1111"}},

		// It isn't Ok without two digits, even if the pattern has it.
		{"#a?", nil, []string{"", "a", "b"}}, {"#[a0]{0,3}", []string{"00", "a00", "0a0"}, []string{"", "0", "a", "aa", "a0", "0aa", "01"}},
	} {
		r := rulesOf(t, c.rule)[0]
		for _, w := range c.in {
			if !Fits(r, []byte(w)) {
				t.Errorf("%s doesn't fit %q", c.rule, w)
			}
		}
		for _, w := range c.out {
			if Fits(r, []byte(w)) {
				t.Errorf("%s fits %q", c.rule, w)
			}
		}
	}
	if !Fits(Rule{N: parse(t, "a?")}, nil) || Fits(Rule{N: parse(t, "a?"), Luhn: true}, nil) || Fits(Rule{N: parse(t, "a")}, nil) {
		t.Error("no bytes at all aren't the empty word")
	}
}

func TestCoverAndMask(t *testing.T) {
	for _, c := range []struct {
		rules   string
		lambda  int
		x, want string
	}{
		{"ab", 2, "xabx", "x**x"}, {"ab", 2, "ab", "**"}, {"ab", 2, "abx", "**x"}, {"ab", 2, "xab", "x**"},
		{"ab", 2, "abab", "****"}, {"ab", 2, "abxab", "**x**"}, {"ab", 2, "aabb", "a**b"}, {"ab", 2, "ba", "ba"}, {"ab", 2, "aB", "aB"},
		{"ab", 2, "", ""}, {"ab", 2, "a", "a"}, {"ab", 2, "b", "b"}, {"a", 1, "a", "*"}, {"a", 1, "b", "b"}, {"a", 1, "aba", "*b*"},

		// No rules.
		{"", 1, "", ""}, {"", 1, "abc", "abc"}, {"", 32, "abc", "abc"},

		// Words of lambda bytes are hidden, but none of more; with no lambda none at all.
		{"abc", 3, "xabcx", "x***x"}, {"abc", 2, "xabcx", "xabcx"}, {"abc", 4, "xabcx", "x***x"}, {"abc", 32, "xabcx", "x***x"},
		{"a", 0, "a", "a"}, {"a", -1, "a", "a"}, {"a", math.MinInt, "aa", "aa"}, {"a", math.MaxInt, "xa", "x*"}, {"ab", math.MaxInt - 1, "xab", "x**"},
		{"a{2,4}", 3, "baaab", "b***b"}, {"a{3,4}", 2, "aaaa", "aaaa"}, {"(ab){1,2}b", 4, "ababb", "ab***"}, {"(ab){1,2}b", 5, "ababb", "*****"},
		{"abcd|bc", 3, "abcd", "a**d"}, {"abcd|bc", 4, "abcd", "****"},

		// Words one over the other, one in the other, one behind the other.
		{"aba", 3, "xababax", "x*****x"}, {"a.a", 3, "abaca", "*****"}, {"abc|bcd", 3, "abcd", "****"}, {"abc|cde", 3, "abcde", "*****"},
		{"abcd|b", 4, "abcd", "****"}, {"b|abcd", 4, "abce", "a*ce"}, {"a|ab|abc", 3, "abcab", "*****"}, {"abc|a", 3, "aabc", "****"},
		{"aaab|a", 4, "aaaba", "*****"}, {"abcde|bc", 5, "abcdx", "a**dx"}, {"ab|b{3}", 3, "abbb", "****"}, {"ab|b{3}", 3, "abb", "**b"},

		// That a word is too short, or too long, says nothing of those between.
		{"a|a{3}", 3, "aabb", "**bb"}, {"a{3}|a{5}", 5, "aaaab", "****b"}, {"a(bc(de)?)?", 5, "abcdx", "***dx"}, {"a(b|bcd)?", 4, "abcd", "****"},

		// The empty word hides nothing.
		{"a?", 3, "bab", "b*b"}, {"a?", 3, "bb", "bb"}, {"a{0,2}", 2, "", ""}, {"a?b?", 2, "cabc", "c**c"}, {"a?", 0, "a", "a"},

		// Several rules: each hides what it fits.
		{"ab bc", 4, "abcb", "***b"}, {"ab cd", 2, "abxcd", "**x**"}, {"b abc", 3, "abcb", "****"}, {"ab ab", 2, "xab", "x**"},
		{"a{4} ab", 2, "aaaab", "aaa**"}, {"x y z", 1, "axbycz", "a*b*c*"}, {"abc b", 2, "abc", "a*c"}, {"abcde cd", 5, "abcdx", "ab**x"},

		// With the check.
		{`#\d{2}`, 4, "x18x19", "x**x19"}, {`#\d{2,3}`, 4, "182", "***"}, {`#\d{2,3}`, 2, "182", "**2"}, {`#\d{3}`, 3, "0182", "****"},
		{`#\d{2}`, 2, "918", "***"}, {`#\d{2}`, 2, "1181", "1**1"}, {`#\d{2,4}`, 4, "1819", "**19"}, {`#\d{3,4}`, 4, "1700", "1700"},
		{`#\d-\d`, 4, "1-8b", "***b"}, {`#\d?`, 4, "0", "0"}, {`#\d{1,2}`, 2, "0x00", "0x**"}, {`#a?`, 2, "aa18", "aa18"},
		{`#\d{1,4}`, 1, "0018", "0018"}, {`#\w{1,6}`, 6, "ab18cd-18", "******-**"}, {`#\w{1,6}`, 4, "abc18cd", "a******"},
		{`#\d{16}`, 32, "no 4111111111111111 yes", "no **************** yes"}, {`#\d{16}`, 32, "no 4111111111111112 yes", "no 4111111111111112 yes"},
		{`#\d{16}`, 15, "4111111111111111", "4111111111111111"}, {`\d{16}`, 32, "4111111111111112", "****************"},
		{`#\d{4}(-\d{4}){3}`, 19, "is 4111-1111-1111-1111.", "is *******************."}, {`#\d{4}(-\d{4}){3}`, 18, "4111-1111-1111-1111", "4111-1111-1111-1111"},

		// Of one rule the check says nothing of another one.
		{`b #\d-\d`, 4, "1-8b", "****"}, {`#\d-\d b`, 4, "1-9b", "1-9*"}, {`\d{2} #\d{3}`, 3, "1 19 182", "1 ** ***"},
		{`#\d{2} \d{2}`, 2, "19", "**"}, {`\d{3} #\d{2}`, 2, "182", "**2"},
	} {
		wantHidden(t, c.rules, rulesOf(t, c.rules), c.lambda, c.x, c.want)
	}
}

func TestEachByteIsLookedAt(t *testing.T) {
	all := make([]byte, 256)
	for b := range all {
		all[b] = byte(b)
	}
	for b := range all {
		var in api.Set
		in[b/64] = 1 << (b % 64)
		l := []Rule{{N: api.Node{Op: api.One, Set: in}}}
		for i, hidden := range Cover(l, 32, all) {
			if hidden != (i == b) {
				t.Errorf("a rule of byte %d: %v of %d", b, hidden, i)
			}
		}
	}
	wantHidden(t, "all but byte 10", rulesOf(t, ".{2}"), 2, "ab\nc\n\x00\xff\n", "**\nc\n**\n")
	wantHidden(t, "bytes of a letter", rulesOf(t, "[\xc3][\xa4]"), 2, "\u00e4\u00e5a", "**\u00e5a")
}

// The mask may be any byte, also one of x or of the rules, and what it makes is looked at no more.
func TestTheMask(t *testing.T) {
	for m := range 256 {
		want := []byte{'x', byte(m), byte(m), 'b', byte(m)}
		if y := Mask(rulesOf(t, "ab c"), 2, byte(m), []byte("xabbc")); !bytes.Equal(y, want) {
			t.Errorf("mask %d: %q", m, y)
		}
	}
	for _, c := range []struct {
		rules   string
		m       byte
		x, want string
	}{
		{"ab", 'a', "abb", "aab"}, {"ab", 'b', "aab", "abb"}, {"ab", 'a', "ab", "aa"}, {"aab", 'a', "aabb", "aaab"},
		{`#\d{2}`, '0', "1800", "0000"}, {`#\d{2}`, '1', "188", "118"}, {"ab", 0, "ab", "\x00\x00"}, {"[*]", 'x', "a*b", "axb"},

		// A byte of x that is the mask is one like any other.
		{"ab", '*', "*ab*", "****"}, {"ab", '*', "a*b", "a*b"}, {"a.b", '*', "a*bb", "***b"}, {"[*]x", '*', "*x*", "***"},
	} {
		if y := Mask(rulesOf(t, c.rules), 32, c.m, []byte(c.x)); string(y) != c.want {
			t.Errorf("%s, mask %q, %q: %q", c.rules, c.m, c.x, y)
		}
	}
}

func TestNoBytes(t *testing.T) {
	for _, rules := range []string{"", "a", "a?", "#a?", `\d{3} a?`} {
		l := rulesOf(t, rules)
		for _, lambda := range []int{math.MinInt, -1, 0, 1, 32, math.MaxInt} {
			for _, x := range [][]byte{nil, {}} {
				if len(Cover(l, lambda, x)) != 0 || len(Mask(l, lambda, '*', x)) != 0 {
					t.Errorf("%s, lambda %d: there is something of no bytes", rules, lambda)
				}
			}
		}
	}
}

// A One of no bytes has no word, but says nothing of what stands beside it.
func TestNoWordAtAll(t *testing.T) {
	none, a := api.Node{Op: api.One}, parse(t, "a")
	for _, c := range []struct {
		n    api.Node
		want string
	}{
		{none, "xaax"},
		{api.Node{Op: api.Cat, Kids: []api.Node{a, none}}, "xaax"},
		{api.Node{Op: api.Alt, Kids: []api.Node{a, none}}, "x**x"},
		{api.Node{Op: api.Rep, Max: 1, Kids: []api.Node{none}}, "xaax"},
		{api.Node{Op: api.Cat, Kids: []api.Node{{Op: api.Rep, Max: 2, Kids: []api.Node{none}}, a}}, "x**x"},
	} {
		wantHidden(t, "with none", []Rule{{N: c.n}}, 4, "xaax", c.want)
	}
}

// Layer 3 tells no more than 1000 of how long words are, but lambda may be more, and so may words.
func TestLongWords(t *testing.T) {
	for _, c := range []struct {
		pattern string
		as, bs  int // x is c, so many a, so many b, and c
		lambda  int
		hidden  int // of these, from the first a on
	}{
		{"a{31}{32}b{7}", 992, 7, 999, 999}, {"a{31}{32}b{7}", 992, 7, 998, 0}, {"a{31}{32}b{7}", 992, 8, math.MaxInt, 999},
		{"a{31}{32}b{8}", 992, 8, 1000, 1000}, {"a{31}{32}b{8}", 992, 8, 999, 0}, {"a{31}{32}b{8}", 992, 9, math.MaxInt, 1000},
		{"a{31}{32}b{9}", 992, 9, 1001, 1001}, {"a{31}{32}b{9}", 992, 9, 1000, 0}, {"a{31}{32}b{9}", 992, 9, math.MaxInt, 1001},
		{"a{31}{32}b{6,9}", 992, 20, 998, 998}, {"a{31}{32}b{6,9}", 992, 20, 999, 999}, {"a{31}{32}b{6,9}", 992, 20, 1000, 1000},
		{"a{31}{32}b{6,9}", 992, 20, 1001, 1001}, {"a{31}{32}b{6,9}", 992, 20, 1002, 1001}, {"a{31}{32}b{6,9}", 992, 20, 997, 0},
		{"a{32}{32}b?", 1024, 2, 1024, 1024}, {"a{32}{32}b?", 1024, 2, 1025, 1025}, {"a{32}{32}b?", 1024, 2, math.MaxInt, 1025},
		{"a{32}{32}|a{2}", 1024, 0, math.MaxInt, 1024}, {"a{32}{32}b|a{32}", 40, 1, 5000, 40}, {"a{32}{32}{2}b", 2048, 1, 5000, 2049},
	} {
		x := []byte("c" + strings.Repeat("a", c.as) + strings.Repeat("b", c.bs) + "c")
		want := bytes.Clone(x)
		for i := range c.hidden {
			want[1+i] = '*'
		}
		if y := Mask(rulesOf(t, c.pattern), c.lambda, '*', x); !bytes.Equal(y, want) {
			t.Errorf("%s, %d and %d bytes, lambda %d: %d are hidden, not %d", c.pattern, c.as, c.bs, c.lambda, bytes.Count(y, []byte("*")), c.hidden)
		}
	}
	// More digits than that, with the check: of 1024 times 5 the sum is 7, of 1024 times 0 it is 0.
	l := rulesOf(t, `#\d{32}{32}`)
	for _, c := range []struct {
		x      string
		lambda int
		want   string
	}{
		{strings.Repeat("0", 1024), 1024, strings.Repeat("*", 1024)}, {strings.Repeat("0", 1024), 1023, strings.Repeat("0", 1024)},
		{"1" + strings.Repeat("0", 1024), math.MaxInt, "1" + strings.Repeat("*", 1024)}, {strings.Repeat("0", 1023) + "1", math.MaxInt, strings.Repeat("0", 1023) + "1"},
	} {
		if y := Mask(l, c.lambda, '*', []byte(c.x)); string(y) != c.want {
			t.Errorf("lambda %d, %d digits: %q", c.lambda, len(c.x), y)
		}
	}
}

// P1, too: nested repetitions, nests deeper than Parse reads, and all kinds of lambda end.
func TestHardPatterns(t *testing.T) {
	x := strings.Repeat("a", 60)
	for _, c := range []struct {
		pattern string
		lambda  int
		want    string
	}{
		{"a?" + strings.Repeat("{32}", 49), math.MaxInt, "b" + strings.Repeat("*", 60) + "b"},
		{"a" + strings.Repeat("{32}", 49), math.MaxInt, "b" + x + "b"},
		{"a" + strings.Repeat("{1,32}", 33), 32, "b" + strings.Repeat("*", 60) + "b"},
		{"(a|aa)" + strings.Repeat("{1,32}", 32), math.MaxInt, "b" + strings.Repeat("*", 60) + "b"},
		{"(a|aa)" + strings.Repeat("{1,32}", 31) + "bb?", 32, "b" + x[:29] + strings.Repeat("*", 32)},
		{"(a|aa){1,32}{1,32}{1,32}bb", math.MaxInt, "b" + x + "b"},
		{strings.Repeat("(a|", 20) + "a" + strings.Repeat("){32}", 20), 31, "b" + x + "b"},
		{strings.Repeat("(a|", 20) + "a" + strings.Repeat("){32}", 20), 32, "b" + strings.Repeat("*", 60) + "b"},
	} {
		wantHidden(t, c.pattern, rulesOf(t, c.pattern), c.lambda, "b"+x+"b", c.want)
	}
	deep := parse(t, "a")
	for range 1 << 16 {
		deep = api.Node{Op: api.Rep, Max: 1, Kids: []api.Node{deep}}
	}
	wantHidden(t, "2^16 times ?", []Rule{{N: deep}}, math.MaxInt, "baab", "b**b")
}

// P1, too: a stream's worth of bytes, with secrets at places that are known.
func TestManyBytes(t *testing.T) {
	const size, step = 1 << 20, 1000
	l := rulesOf(t, `#\d{16} key-\w{1,12} [a-z]{28} (\d{1,3}[.]){3}\d{1,3}`)
	secrets := []string{"4111111111111111", "key-a1_B2", "abcdefghijklmnopqrstuvwxyzab", "192.168.1.25"}
	x := bytes.Repeat([]byte("Now then, 4111111111111112 & key and 1.2.3; "), size/44)
	want := bytes.Clone(x)
	for i := range len(x)/step - 1 {
		secret := " " + secrets[i%len(secrets)] + " "
		copy(x[i*step:], secret)
		copy(want[i*step:], " "+strings.Repeat("*", len(secret)-2)+" ")
	}
	for _, lambda := range []int{32, math.MaxInt} {
		if y := Mask(l, lambda, '*', x); !bytes.Equal(y, want) {
			t.Errorf("lambda %d: of %d bytes others are hidden", lambda, len(x))
		}
	}
}
