package verdict

import (
	"math"
	"reflect"
	"strings"
	"testing"

	"snaffle/api"
	"snaffle/mask"
)

// Bits of rates, written out.
const (
	one    = 0x3ff0000000000000
	three  = 0x4008000000000000
	last   = 0x4090000000000000 // 1024
	beyond = 0x4090000000000001 // the first number above 1024
	under  = 0x3fefffffffffffff // the last one below 1
	none   = 0x7ff8000000000000 // no number
)

// config is one that may be.
func config() api.Config {
	return api.Config{Lambda: 6, Q: 8, Cap: 9, Rate: three, Mask: '*'}
}

// with is config with something changed.
func with(change func(c *api.Config)) api.Config {
	c := config()
	change(&c)
	return c
}

// bytesOf is a One of the bytes of s.
func bytesOf(s string) api.Node {
	n := api.Node{Op: api.One}
	for i := range len(s) {
		n.Set[s[i]/64] |= 1 << (s[i] % 64)
	}
	return n
}

func of(op int, kids ...api.Node) api.Node { return api.Node{Op: op, Kids: kids} }

func rep(low, high int, kid api.Node) api.Node {
	return api.Node{Op: api.Rep, Min: low, Max: high, Kids: []api.Node{kid}}
}

func plain(n api.Node) mask.Rule { return mask.Rule{N: n} }

func luhn(n api.Node) mask.Rule { return mask.Rule{N: n, Luhn: true} }

func wantRules(t *testing.T, text string, c api.Config, k int, want ...mask.Rule) {
	t.Helper()
	l, got, err := Check(text, c)
	if err != nil || got != k || len(l) != len(want) {
		t.Errorf("Check(%.300q, %v): %v, %d, %v, not %v, %d", text, c, l, got, err, want, k)
		return
	}
	for i := range want {
		if !reflect.DeepEqual(l[i], want[i]) {
			t.Errorf("Check(%.300q, %v): rule %d is %v, not %v", text, c, i, l[i], want[i])
		}
	}
}

// wantGood asks for no more than that nothing is amiss with so many rules.
func wantGood(t *testing.T, text string, c api.Config, many int) {
	t.Helper()
	if l, _, err := Check(text, c); err != nil || len(l) != many {
		t.Errorf("Check(%.300q, %v): %v, %v, not %d rules", text, c, l, err, many)
	}
}

// wantArg wants ErrArg itself.
func wantArg(t *testing.T, text string, c api.Config) {
	t.Helper()
	if l, k, err := Check(text, c); err != api.ErrArg || l != nil || k != 0 {
		t.Errorf("Check(%.300q, %v): %v, %d, %v, not ErrArg", text, c, l, k, err)
	}
}

// wantFault asks twice, and spoils the first Spot, since each one is new memory.
func wantFault(t *testing.T, text string, c api.Config, at int, code api.Code) {
	t.Helper()
	for range 2 {
		l, k, err := Check(text, c)
		spot, ok := err.(*api.Spot)
		if !ok || *spot != (api.Spot{At: at, Code: code}) || len(l) != 0 || k != 0 {
			t.Errorf("Check(%.300q, %v): %v, %d, %v, not %v at %d", text, c, l, k, err, code, at)
			return
		}
		*spot = api.Spot{At: -1, Code: -1}
	}
}

// P15.1, as are all up to TestTheRate.
func TestCheck(t *testing.T) {
	c := config()
	a, b, digit := bytesOf("a"), bytesOf("b"), bytesOf("0123456789")

	// The chapter's example.
	wantRules(t, "", c, 3)

	wantRules(t, "\n\n# a* plain\n#\n", c, 3)
	wantRules(t, "x a plain", c, 3, plain(a))
	wantRules(t, "x a luhn", c, 3, luhn(a))
	wantRules(t, "x ab plain\ny \\d{6} luhn\n", c, 3, plain(of(api.Cat, a, b)), luhn(rep(6, 6, digit)))

	// In order, by no name and by no pattern, also where two have the same pattern.
	wantRules(t, "y b plain\nx a luhn\nz b luhn\nw b plain", c, 3, plain(b), luhn(a), luhn(b), plain(b))
	wantRules(t, "#\nz b plain\n\n# x a plain\ny a plain\n#", c, 3, plain(b), plain(a))
	wantRules(t, "a a plain\nb b luhn\nc a luhn\nd b plain\ne a plain\nf a plain\ng b luhn\nh \\d plain", c, 3,
		plain(a), luhn(b), luhn(a), plain(b), plain(a), plain(a), luhn(b), plain(digit))

	// Each kind of node, and one in another.
	wantRules(t, "x a|b plain", c, 3, plain(of(api.Alt, a, b)))
	wantRules(t, "x a?b plain", c, 3, plain(of(api.Cat, rep(0, 1, a), b)))
	wantRules(t, "x (a{2}|b?a){1,3} plain", c, 3, plain(rep(1, 3, of(api.Alt, rep(2, 2, a), of(api.Cat, rep(0, 1, b), a)))))

	// The pattern is all between the first and the last space.
	wantRules(t, "x a b luhn", c, 3, luhn(of(api.Cat, a, bytesOf(" "), b)))
	wantRules(t, "x   plain", c, 3, plain(bytesOf(" ")))
	wantRules(t, "x \xff plain", c, 3, plain(bytesOf("\xff")))
}

// empty are rules with a pattern that nothing at all is a word of, mostly such that something else is amiss, too.
var empty = []string{
	"a?", "a{0,1}", "a{0,32}", "(a|b)?", "a?b?", "a?|b", "a|b?", "a|b|c?", "(a?)", "(a?){2}", "a?{2}", "a{1}?", "(a|b?){3}", "(a?b?|c)(d|e?)", "(a|(b|(c|d?)))",
	"a{0,7}", "a{32}?", "a{7}?", "[*]?", "\\*?", ".?", "[*]{0,7}", "(a{6}b)?", "a{32}{32}{32}?", "x?{32}{32}{32}{32}{32}{32}{32}{32}{32}{32}{32}{32}",
}

// long are such that fit too much, and not nothing, at lambda 6.
var long = []string{
	"abcdefg", "a{7}", "a{32}", "a{1,7}", "a{1,32}", "a{2}{4}", "a{3}{3}", "a{6}b?", "ba{0,6}", "a|b{7}", "a{7}|b", "(a|bcd){2}e", "(a?b){4}", "(a|b{4}){1,2}", "a?{6}b", "a{32}{32}", "a{31}{32}a{9}",
	"a{7}?[*]", "[*]{7}", ".{7}", "\\*{1,7}", "a|.{7}", "a{32}{32}{32}{32}{32}{32}{32}{32}{32}{32}{32}{32}{32}{32}{32}{32}", "(((((((((((((((((((a{32}){32}){32}){32}){32}){32}){32}){32}){32}){32}){32}){32}){32}){32}){32}){32}){32}){32}){32})",
}

// masked are such that have the mask *, and neither fit nothing nor too much.
var masked = []string{
	"\\*", "[*]", ".", "[^a]", "[^\\d\\w]", "[)-+]", "[*-+]", "[)-*]", "[a*]", "[*a]", "a\\*", "\\*a", "a|\\*", "\\*|a", "a\\*?", "a\\*{0,5}", "a(b|c\\*?)?", "(a[^b]){3}", "aaaaa.", ".{6}", "(a|(b|(c|[*])))", "a?\\*", "[^\\n]", "[\\*]",
}

// good are such that nothing is amiss with.
var good = []string{
	"a", "abcdef", "a{6}", "a{1,6}", "a{2,6}", "a{3}{2}", "a{2}{3}", "a{0,5}b", "ba{0,5}", "a|b{6}", "(ab?|c){3}", "a?b", "ab?", "(a?|b)c", "(a|b)(c|d?)", "(a?b){3}", "a?{5}b",
	"[^*]", "[^\\*]", "[^)-+]", "\\w{6}", "\\d{1,6}", "[+]", "\\+", "\\)", "[)]", "\\n", "\\t", "j", "[^\x00-\xff]", "a|[^\x00-\xff]", "\xaa", "\x6a", "\xea",
	strings.Repeat("(", 20) + "a" + strings.Repeat(")", 20), "a" + strings.Repeat("|b", 99),
}

// misread are such that are no patterns, and layer 2's Code of each.
var misread = []struct {
	pattern string
	code    api.Code
}{
	{"*", api.ErrStar}, {"+", api.ErrStar}, {"a*", api.ErrStar}, {"a+", api.ErrStar}, {"(a|+)", api.ErrStar}, {"a?*", api.ErrStar}, {"a{7}*", api.ErrStar}, {"a*)", api.ErrStar},
	{")", api.ErrForm}, {"(", api.ErrForm}, {"(a", api.ErrForm}, {"a)", api.ErrForm}, {"a|", api.ErrForm}, {"|a", api.ErrForm}, {"?", api.ErrForm}, {"[", api.ErrForm}, {"[]", api.ErrForm}, {"[a", api.ErrForm}, {"[b-a]", api.ErrForm},
	{"a{0}", api.ErrForm}, {"a{33}", api.ErrForm}, {"a{2,1}", api.ErrForm}, {"a{", api.ErrForm}, {"a{1", api.ErrForm}, {"a{,1}", api.ErrForm}, {"a{1,}", api.ErrForm}, {"\\", api.ErrForm}, {"\\x", api.ErrForm}, {"^a", api.ErrForm}, {"a$", api.ErrForm},
	{"a?)", api.ErrForm}, {".{7})", api.ErrForm}, {")*", api.ErrForm},
	{strings.Repeat("(", 21) + "a" + strings.Repeat(")", 21), api.ErrLarge}, {strings.Repeat("(", 21) + "*", api.ErrLarge},
	{strings.Repeat("a", 201), api.ErrLarge}, {strings.Repeat("*", 201), api.ErrLarge}, {"a" + strings.Repeat("|b", 100), api.ErrLarge}, {strings.Repeat("(", 20) + "*", api.ErrStar},
}

// amiss is a rule, and which error it is.
type amiss struct {
	pattern string
	code    api.Code
}

// allAmiss are all rules above that something is amiss with.
func allAmiss() []amiss {
	var l []amiss
	for _, c := range misread {
		l = append(l, amiss{c.pattern, c.code})
	}
	for _, p := range empty {
		l = append(l, amiss{p, api.ErrEmpty})
	}
	for _, p := range long {
		l = append(l, amiss{p, api.ErrLong})
	}
	for _, p := range masked {
		l = append(l, amiss{p, api.ErrMask})
	}
	return l
}

func TestWhatIsAmissWithARule(t *testing.T) {
	c := config()
	for _, p := range good {
		wantGood(t, "a "+p+" plain", c, 1)
		wantGood(t, "a "+p+" luhn\nb c plain\nc "+p+" plain", c, 3)
	}
	for _, x := range allAmiss() {
		for _, kind := range []string{" plain", " luhn"} {
			rule := " " + x.pattern + kind
			wantFault(t, "a"+rule, c, 0, x.code)
			wantFault(t, "a"+rule+"\nb c plain\n", c, 0, x.code)

			// At the rule, counted without the lines that tell nothing, and not at a place in its pattern.
			wantFault(t, "#\n\n\na"+rule, c, 0, x.code)
			wantFault(t, "a b plain\n\n# c* plain\nb c luhn\n#\nc"+rule+"\nd e plain", c, 2, x.code)
			wantFault(t, "a b plain\nb b plain\nc b plain\nd b plain\ne b plain\nf b plain\ng b plain\nh"+rule, c, 7, x.code)
		}
	}
}

// R1: rule by rule, whatever is amiss with the next one.
func TestTheFirstRuleThatIsAmiss(t *testing.T) {
	c := config()
	l := allAmiss()
	for _, x := range l {
		for _, y := range l {
			text := "a b plain\nb " + x.pattern + " plain\nc d plain\nd " + y.pattern + " luhn\n"
			wantFault(t, text, c, 1, x.code)
		}
	}
}

// R1: in one rule layer 2's error goes ahead of ErrEmpty, that one of ErrLong, and that one of ErrMask.
func TestWhichErrorOfARule(t *testing.T) {
	for _, x := range []amiss{
		{"[*]{0,7})", api.ErrForm}, {"[*]{0,7}*", api.ErrStar}, {strings.Repeat("(", 20) + "([*]{0,7}", api.ErrLarge},
		{"[*]{0,7}", api.ErrEmpty}, {"[*]{0,6}", api.ErrEmpty}, {"a{0,7}", api.ErrEmpty}, {"a{0,6}", api.ErrEmpty},
		{"[*]{1,7}", api.ErrLong}, {"a{1,7}", api.ErrLong},
		{"[*]{1,6}", api.ErrMask}, {"[^*]{1,6}", 0},
	} {
		text := "a " + x.pattern + " plain"
		if x.code == 0 {
			wantGood(t, text, config(), 1)
			continue
		}
		wantFault(t, text, config(), 0, x.code)
	}
}

// Layer 14's error goes ahead of all that is amiss with a rule, and is told at its line.
func TestTheTextsError(t *testing.T) {
	c := config()
	for _, x := range []struct {
		text string
		at   int
		code api.Code
	}{
		{"x", 0, api.ErrForm}, {"a b plain\nx", 1, api.ErrForm}, {"#\n\na b plain\n\nA b plain", 4, api.ErrForm}, {"a b", 0, api.ErrForm}, {"a  plain", 0, api.ErrForm},
		{"a b plain\n#\na c luhn", 2, api.ErrTwice}, {"a b plain\na b plain", 1, api.ErrTwice}, {"a b plain\na b* plain", 1, api.ErrTwice},
		{"\na a plain\nb a plain\nc a plain\nd a plain\ne a plain\nf a plain\ng a plain\nh a plain\n#\ni a plain", 10, api.ErrLarge},
		{"#" + strings.Repeat("x", 4000), 0, api.ErrLarge}, {"a* plain" + strings.Repeat("\n", 4000), 0, api.ErrLarge}, {strings.Repeat("x", 4001), 0, api.ErrLarge},
	} {
		wantFault(t, x.text, c, x.at, x.code)
	}
	for _, x := range allAmiss() {
		rule := "a " + x.pattern + " plain\n"
		wantFault(t, rule+"x", c, 1, api.ErrForm)
		wantFault(t, rule+"#\na b plain", c, 2, api.ErrTwice)
		wantFault(t, rule+"b a plain\nc a plain\nd a plain\ne a plain\nf a plain\ng a plain\nh a plain\n\ni a plain", c, 9, api.ErrLarge)
		wantFault(t, rule+"#"+strings.Repeat("x", 4000), c, 0, api.ErrLarge)
	}
	wantGood(t, "#"+strings.Repeat("x", 3989)+"\na b plain", c, 1)
}

// mayNot are configurations of which one thing may not be.
func mayNot() []api.Config {
	var l []api.Config
	for _, n := range []int{0, -1, -6, math.MinInt, math.MinInt32, 33, 34, 64, 255, 256 + 6, 1<<32 + 6, math.MaxInt} {
		l = append(l, with(func(c *api.Config) { c.Lambda = n }))
	}
	for _, n := range []int{0, -1, -8, math.MinInt, 1, 2, 1025, 1026, 1<<16 + 8, 1<<32 + 8, math.MaxInt} {
		l = append(l, with(func(c *api.Config) { c.Q = n }))
	}
	for _, n := range []int{0, -1, -9, math.MinInt, 1001, 1002, 1<<16 + 9, 1<<32 + 9, math.MaxInt} {
		l = append(l, with(func(c *api.Config) { c.Cap = n }))
	}
	for _, bits := range []uint64{0, 1 << 63, 1, 3, 8, under, one | 1<<63, three | 1<<63, beyond, none, none | 1<<63, 0x7ff0000000000000, 0xfff0000000000000, 0x7ff0000000000001, math.MaxUint64} {
		l = append(l, with(func(c *api.Config) { c.Rate = bits }), with(func(c *api.Config) { c.Rate, c.Q = bits, api.MaxQueue }))
	}
	return append(l, api.Config{}, api.Config{Mask: '*'}, with(func(c *api.Config) { c.Lambda, c.Q, c.Cap, c.Rate = 9, 6, 8, 0x401c000000000000 }))
}

// ErrArg goes ahead of all that is amiss with a text and its rules.
func TestWhatMayNotBe(t *testing.T) {
	for _, c := range mayNot() {
		for _, text := range []string{"", "#", "a b plain", "x", "a b plain\na b plain", strings.Repeat("x", 4001), "a a* plain", "a a| plain", "a a? plain", "a a{32}{2} plain", "a \\* plain"} {
			wantArg(t, text, c)
		}
	}
}

func TestTheEdgesOfWhatMayBe(t *testing.T) {
	for _, x := range []struct {
		lambda, q, cap int
		rate           uint64
		k              int
	}{
		{1, 1, 1, one, 1}, {32, 1024, 1000, last, 1024}, {32, 1, 1, one, 1}, {1, 1024, 1, one, 1}, {1, 1, 1000, one, 1}, {1, 1024, 1, last, 1024}, {6, 3, 9, three, 3}, {6, 1024, 9, three, 3},
	} {
		c := api.Config{Lambda: x.lambda, Q: x.q, Cap: x.cap, Rate: x.rate, Mask: '*'}
		wantRules(t, "x a plain", c, x.k, plain(bytesOf("a")))
	}
	wantArg(t, "", api.Config{Lambda: 1, Q: 1023, Cap: 1, Rate: last, Mask: '*'})
	for lambda := 1; lambda <= 32; lambda++ {
		c := with(func(c *api.Config) { c.Lambda = lambda })
		fits := "a " + strings.Repeat("a", lambda) + " plain"
		wantGood(t, fits, c, 1)
		wantFault(t, "b a luhn\na "+strings.Repeat("a", lambda)+"b? plain", c, 1, api.ErrLong)
		wantFault(t, "b a luhn\na "+strings.Repeat("a", lambda)+"b plain", c, 1, api.ErrLong)
	}
}

// The rate that is told, and that Q is held against, is layer 12's whole number.
func TestTheRate(t *testing.T) {
	for _, x := range []struct {
		bits uint64
		k    int
	}{
		{one, 1}, {one + 1, 1}, {0x3fffffffffffffff, 1}, {0x4000000000000000, 2}, {0x400c000000000000, 3}, {0x401f99999999999a, 7}, {0x408fffffffffffff, 1023}, {last, 1024},
	} {
		c := with(func(c *api.Config) { c.Rate, c.Q = x.bits, x.k })
		wantRules(t, "x a luhn", c, x.k, luhn(bytesOf("a")))
		c.Q = x.k - 1
		wantArg(t, "x a luhn", c)
		c.Q = api.MaxQueue
		wantRules(t, "", c, x.k)
	}
}

// P15.1: each byte as the mask, held against sets that have it and that have not.
func TestEachMask(t *testing.T) {
	for b := range 256 {
		c := with(func(c *api.Config) { c.Mask = byte(b) })
		wantGood(t, "", c, 0)
		for _, x := range []struct {
			pattern string
			has     bool
		}{
			{".", b != '\n'}, {`\n`, b == '\n'}, {`\t`, b == '\t'}, {`\d`, '0' <= b && b <= '9'}, {`[^\d]`, b < '0' || b > '9'}, {"[a-z]", 'a' <= b && b <= 'z'}, {"[\x00-?]", b < 64}, {"[@-\x7f]", b >= 64 && b < 128},
			{"[\x80-\xbf]", b >= 128 && b < 192}, {"[\xc0-\xff]", b >= 192}, {"[^\x00-\xff]", false}, {"[\x00-\xff]", true}, {"\x00", b == 0}, {"\xff", b == 255}, {"[\x3f\x40]", b == 63 || b == 64}, {"[\x7f\x80]", b == 127 || b == 128},
		} {
			text := "y " + x.pattern + " luhn"
			if x.has {
				wantFault(t, text, c, 0, api.ErrMask)
				continue
			}
			wantGood(t, text, c, 1)
		}
	}
}

// spoil changes all that a node is made of.
func spoil(n *api.Node) {
	for i := range n.Kids {
		spoil(&n.Kids[i])
	}
	*n = api.Node{Op: -1, Min: -1, Max: -1}
}

// P15.2: neither from call to call, nor from rule to rule, is anything the same memory.
func TestNewMemory(t *testing.T) {
	const text = "a (ab|\\d{2}) plain\nb a{2} luhn\nc a{2} luhn\nd (a|b)c plain\ne (a|b)c plain"
	a, b := bytesOf("a"), bytesOf("b")
	twice := rep(2, 2, bytesOf("a"))
	both := func() api.Node { return of(api.Cat, of(api.Alt, a, b), bytesOf("c")) }
	want := func() []mask.Rule {
		return []mask.Rule{plain(of(api.Alt, of(api.Cat, a, b), rep(2, 2, bytesOf("0123456789")))), luhn(twice), luhn(twice), plain(both()), plain(both())}
	}
	for at := range want() {
		l, _, err := Check(text, config())
		if err != nil || len(l) != len(want()) {
			t.Fatal(l, err)
		}
		spoil(&l[at].N)
		l[at].Luhn = !l[at].Luhn
		for i, w := range want() {
			if i != at && !reflect.DeepEqual(l[i], w) {
				t.Errorf("rule %d is %v, since rule %d was changed", i, l[i], at)
			}
		}
		wantRules(t, text, config(), 3, want()...)
	}
}
