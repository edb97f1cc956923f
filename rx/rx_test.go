package rx

import (
	"math/rand/v2"
	"reflect"
	"strconv"
	"strings"
	"testing"

	"snaffle/api"
)

// where builds a One straight from the chapter's words, so that the tests lean on no call of the program.
func where(has func(b int) bool) api.Node {
	n := api.Node{Op: api.One}
	for b := range 256 {
		if has(b) {
			n.Set[b/64] |= 1 << (b % 64)
		}
	}
	return n
}

func oneOf(s string) api.Node {
	return where(func(b int) bool { return strings.IndexByte(s, byte(b)) >= 0 })
}

func noneOf(s string) api.Node {
	return where(func(b int) bool { return strings.IndexByte(s, byte(b)) < 0 })
}

func of(op int, kids ...api.Node) api.Node { return api.Node{Op: op, Kids: kids} }

func rep(low, high int, kid api.Node) api.Node {
	return api.Node{Op: api.Rep, Min: low, Max: high, Kids: []api.Node{kid}}
}

const (
	digitBytes = "0123456789"
	wordBytes  = digitBytes + "abcdefghijklmnopqrstuvwxyzABCDEFGHIJKLMNOPQRSTUVWXYZ_"
	quotedOnes = "\\.[](){}|?*+^$-/"
)

// same holds nodes against each other; lists of no elements may be nil or empty.
func same(a, b api.Node) bool {
	if a.Op != b.Op || a.Set != b.Set || a.Min != b.Min || a.Max != b.Max || len(a.Kids) != len(b.Kids) {
		return false
	}
	for i := range a.Kids {
		if !same(a.Kids[i], b.Kids[i]) {
			return false
		}
	}
	return true
}

func wantNode(t *testing.T, text string, want api.Node) {
	t.Helper()
	got, err := Parse(text)
	if err != nil || !same(got, want) {
		t.Errorf("Parse(%q) is %v, %v, not %v", text, got, err, want)
	}
}

func wantSpot(t *testing.T, text string, at int, code api.Code) {
	t.Helper()
	got, err := Parse(text)
	spot, ok := err.(*api.Spot)
	if !ok || spot == nil || spot.At != at || spot.Code != code {
		t.Errorf("Parse(%q) is %v, not %v at %d", text, err, code, at)
	}
	if !same(got, api.Node{}) {
		t.Errorf("Parse(%q) tells a node beside its error: %v", text, got)
	}
}

// P2.1, as are all up to TestNoTextPanics.
func TestEveryByteAlone(t *testing.T) {
	for b := range 256 {
		text := string([]byte{byte(b)})
		switch {
		case strings.Contains("*+", text):
			wantSpot(t, text, 0, api.ErrStar)
		case strings.Contains("]){}|?^$", text):
			wantSpot(t, text, 0, api.ErrForm)
		case strings.Contains("([\\", text):
			wantSpot(t, text, 1, api.ErrForm)
		case text == ".":
			wantNode(t, text, noneOf("\n"))
		default:
			wantNode(t, text, oneOf(text))
		}
	}
}

func TestEveryByteBehindABackslash(t *testing.T) {
	for b := range 256 {
		text := string([]byte{byte(b)})
		want, inside := oneOf(text), true
		switch {
		case text == "d":
			want = oneOf(digitBytes)
		case text == "w":
			want = oneOf(wordBytes)
		case text == "n":
			want = oneOf("\x0a")
		case text == "t":
			want = oneOf("\x09")
		default:
			inside = strings.Contains(quotedOnes, text)
		}
		if !inside {
			wantSpot(t, "a\\"+text, 2, api.ErrForm)
			wantSpot(t, "[\\"+text+"]", 2, api.ErrForm)
			wantSpot(t, "[!-\\"+text+"]", 4, api.ErrForm)
			continue
		}
		wantNode(t, "\\"+text, want)
		wantNode(t, "[\\"+text+"]", want)
		wantNode(t, "[^\\"+text+"]", where(func(b int) bool { return want.Set[b/64]>>(b%64)&1 == 0 }))
	}
}

func TestEveryByteAsAnItem(t *testing.T) {
	for b := range 256 {
		text := string([]byte{byte(b)})
		switch text {
		case "\\":
			wantSpot(t, "[\\", 2, api.ErrForm)
			continue
		case "]":
			wantSpot(t, "[]", 1, api.ErrForm)
			wantSpot(t, "[^]", 2, api.ErrForm)
			continue
		case "^":
			wantNode(t, "[^^]", noneOf("^"))
		default:
			wantNode(t, "["+text+"]", oneOf(text))
			wantNode(t, "[^"+text+"]", noneOf(text))
		}
		if text != "-" {
			wantNode(t, "[q"+text+"]", oneOf("q"+text))
		}
	}
}

// inItems writes a byte so that it is an item's byte wherever it stands.
func inItems(b int) string {
	text := string([]byte{byte(b)})
	if strings.Contains(quotedOnes, text) {
		return "\\" + text
	}
	return text
}

func TestEveryRange(t *testing.T) {
	for low := range 256 {
		for high := range 256 {
			text := "[" + inItems(low) + "-" + inItems(high)
			if high < low {
				wantSpot(t, text+"]", len(text)-1, api.ErrForm)
				wantSpot(t, text, len(text)-1, api.ErrForm)
				continue
			}
			wantNode(t, text+"]", where(func(b int) bool { return low <= b && b <= high }))
		}
	}
}

func TestItems(t *testing.T) {
	for _, c := range []struct {
		text string
		want api.Node
	}{
		{"[abc]", oneOf("abc")},
		{"[aaa]", oneOf("a")},
		{"[a-cx]", oneOf("abcx")},
		{"[xa-c]", oneOf("abcx")},
		{"[a-cb-d]", oneOf("abcd")},
		{"[a-a]", oneOf("a")},
		{"[^a-c]", noneOf("abc")},
		{"[^ab-d]", noneOf("abcd")},
		{"[a^]", oneOf("a^")},
		{"[^^a]", noneOf("^a")},
		{"[^a^]", noneOf("^a")},
		{"[\\^a]", oneOf("^a")},
		{"[^-^]", noneOf("-^")},
		{"[[]", oneOf("[")},
		{"[(){}|?*+^$./]", oneOf("(){}|?*+^$./")},
		{"[\\[-\\]]", oneOf("[\\]")},
		{"[-]", oneOf("-")},
		{"[-a]", oneOf("-a")},
		{"[^-a]", noneOf("-a")},
		{"[^-]", noneOf("-")},
		{"[a\\-]", oneOf("-a")},
		{"[---]", oneOf("-")},
		{"[--/]", oneOf("-./")},
		{"[+--]", oneOf("+,-")},
		{"[+---]", oneOf("+,-")},
		{"[a-c-]", oneOf("abc-")},
		{"[a-c-e]", oneOf("abc-e")},
		{"[a-c-e-g]", oneOf("abc-efg")},
		{"[\\--/]", oneOf("-./")},
		{"[+-\\-]", oneOf("+,-")},
		{"[\\t-\\n]", oneOf("\t\n")},
		{"[\\t-\x0c]", oneOf("\t\n\x0b\x0c")},
		{"[\\d-]", oneOf(digitBytes + "-")},
		{"[\\d-a]", oneOf(digitBytes + "-a")},
		{"[\\d-\\w]", oneOf(wordBytes + "-")},
		{"[\\d--/]", oneOf(digitBytes + "-./")},
		{"[a\\d]", oneOf(digitBytes + "a")},
		{"[^\\w\\n]", noneOf(wordBytes + "\n")},
		{"[^\\d.]", noneOf(digitBytes + ".")},
		{"[\x00-\xff]", noneOf("")},
		{"[^\x00-\xff]", oneOf("")},
	} {
		wantNode(t, c.text, c.want)
	}
}

// written tells all ways to write a number by one or two digits.
func written(n int) []string {
	if n < 10 {
		return []string{strconv.Itoa(n), "0" + strconv.Itoa(n)}
	}
	return []string{strconv.Itoa(n)}
}

func TestEveryNumberInBraces(t *testing.T) {
	for n := range 100 {
		for _, s := range written(n) {
			if text := "a{" + s + "}b"; n < 1 || n > 32 {
				wantSpot(t, text, 2+len(s), api.ErrForm)
			} else {
				wantNode(t, text, of(api.Cat, rep(n, n, oneOf("a")), oneOf("b")))
			}
		}
	}
}

func TestEveryTwoNumbersInBraces(t *testing.T) {
	for m := range 100 {
		for n := range 100 {
			for _, low := range written(m) {
				for _, high := range written(n) {
					text := "a{" + low + "," + high + "}"
					if n < 1 || n > 32 || m > n {
						wantSpot(t, text, len(text)-1, api.ErrForm)
					} else {
						wantNode(t, text, rep(m, n, oneOf("a")))
					}
				}
			}
		}
	}
}

func TestShapes(t *testing.T) {
	a, b, c, d := oneOf("a"), oneOf("b"), oneOf("c"), oneOf("d")
	for _, x := range []struct {
		text string
		want api.Node
	}{
		{"a|bc", of(api.Alt, a, of(api.Cat, b, c))},
		{"abc", of(api.Cat, a, b, c)},
		{"a|b|c|d", of(api.Alt, a, b, c, d)},
		{"ab|cd", of(api.Alt, of(api.Cat, a, b), of(api.Cat, c, d))},
		{"(((a)))", a},
		{"(ab)", of(api.Cat, a, b)},
		{"(ab)c", of(api.Cat, of(api.Cat, a, b), c)},
		{"a(bc)", of(api.Cat, a, of(api.Cat, b, c))},
		{"(a)(b)", of(api.Cat, a, b)},
		{"a(b|c)d", of(api.Cat, a, of(api.Alt, b, c), d)},
		{"(a|b)|c", of(api.Alt, of(api.Alt, a, b), c)},
		{"a|(b|c)", of(api.Alt, a, of(api.Alt, b, c))},
		{"ab?", of(api.Cat, a, rep(0, 1, b))},
		{"(ab)?", rep(0, 1, of(api.Cat, a, b))},
		{"a|b?", of(api.Alt, a, rep(0, 1, b))},
		{"(a|b){2,3}c", of(api.Cat, rep(2, 3, of(api.Alt, a, b)), c)},
		{"a?b{2}c{0,1}", of(api.Cat, rep(0, 1, a), rep(2, 2, b), rep(0, 1, c))},
		{"a?{2}", rep(2, 2, rep(0, 1, a))},
		{"a{2}?", rep(0, 1, rep(2, 2, a))},
		{"a??", rep(0, 1, rep(0, 1, a))},
		{"a{2}{3}{1,4}", rep(1, 4, rep(3, 3, rep(2, 2, a)))},
		{"(a?)?", rep(0, 1, rep(0, 1, a))},
		{"a{1}", rep(1, 1, a)},
		{"a{1,1}", rep(1, 1, a)},
		{"a{1,2}3", of(api.Cat, rep(1, 2, a), oneOf("3"))},
		{"[ab]{2}", rep(2, 2, oneOf("ab"))},
		{".?", rep(0, 1, noneOf("\n"))},
		{"\\d{4}-\\w", of(api.Cat, rep(4, 4, oneOf(digitBytes)), oneOf("-"), oneOf(wordBytes))},
		{"\\??", rep(0, 1, oneOf("?"))},
		{"\\\\d", of(api.Cat, oneOf("\\"), d)},
		{"\\[a\\]", of(api.Cat, oneOf("["), a, oneOf("]"))},
		{"\xc3\xa9", of(api.Cat, oneOf("\xc3"), oneOf("\xa9"))},
		{"a,-\n", of(api.Cat, a, oneOf(","), oneOf("-"), oneOf("\n"))},
	} {
		wantNode(t, x.text, x.want)
	}
}

func TestStars(t *testing.T) {
	// Behind each of these a piece, or a repetition may begin.
	for _, ahead := range []string{
		"", "(", "((", "a|", "(a|", "a", "ab", "a?", "a??", "a{2}", "a{0,3}", "(a", "(a)", "((a)",
		"[a]", "[^a]", "[*]", "\\d", "\\w", "\\n", "\\*", "\\+", ".", "a|b", "(a|b)", "(a|b)?",
	} {
		for _, star := range []string{"*", "+"} {
			for _, behind := range []string{"", "a", ")", "*", "{", "\\q"} {
				wantSpot(t, ahead+star+behind, len(ahead), api.ErrStar)
			}
		}
	}
	// Behind these none may begin.
	for _, ahead := range []string{"a{", "a{1", "a{12", "a{1,", "a{1,2", "a{1,12", "[a-", "[^a-", "[\\.-", "[\\/-"} {
		for _, star := range []string{"*", "+"} {
			wantSpot(t, ahead+star, len(ahead), api.ErrForm)
			wantSpot(t, ahead+star+"*", len(ahead), api.ErrForm)
		}
	}
	// And here they are bytes.
	wantNode(t, "\\*", oneOf("*"))
	wantNode(t, "\\+", oneOf("+"))
	wantNode(t, "[*+]", oneOf("*+"))
	wantNode(t, "[^*]", noneOf("*"))
	wantNode(t, "[*-+]", oneOf("*+"))
	wantNode(t, "[\\*-\\+]", oneOf("*+"))
}

func TestOpenBrackets(t *testing.T) {
	a := oneOf("a")
	opened := func(n int) string { return strings.Repeat("(", n) }
	closed := func(n int) string { return strings.Repeat(")", n) }
	wantNode(t, opened(20)+"a"+closed(20), a)
	wantSpot(t, opened(20), 20, api.ErrForm)
	wantSpot(t, opened(21), 20, api.ErrLarge)
	wantSpot(t, opened(200), 20, api.ErrLarge)
	wantSpot(t, opened(21)+"a"+closed(21), 20, api.ErrLarge)
	wantSpot(t, "a|"+opened(20)+"b(", 23, api.ErrLarge)
	wantSpot(t, opened(20)+"a|(", 22, api.ErrLarge)
	wantSpot(t, opened(20)+"*", 20, api.ErrStar)
	wantSpot(t, opened(20)+"a"+closed(21), 41, api.ErrForm)

	// Those that are closed don't count, nor do those that are bytes.
	wantNode(t, opened(19)+"(a)(a)|(a)"+closed(19), of(api.Alt, of(api.Cat, a, a), a))
	wantNode(t, opened(20)+"a"+closed(20)+opened(20)+"a"+closed(20), of(api.Cat, a, a))
	wantSpot(t, opened(20)+"a"+closed(1)+"((", 23, api.ErrLarge)
	var kids []api.Node
	for range 50 {
		kids = append(kids, a)
	}
	wantNode(t, strings.Repeat("(a)", 50), of(api.Cat, kids...))
	wantNode(t, opened(20)+"\\([(]"+closed(20), of(api.Cat, oneOf("("), oneOf("(")))
}

func TestLength(t *testing.T) {
	for _, s := range []string{"a", "*", "(", "[", "\\", "\xff", "?"} {
		wantSpot(t, strings.Repeat(s, 201), 0, api.ErrLarge)
		wantSpot(t, strings.Repeat(s, 1000), 0, api.ErrLarge)
	}
	wantSpot(t, strings.Repeat("a", 100000), 0, api.ErrLarge)
	wantSpot(t, strings.Repeat("a", 199)+"*", 199, api.ErrStar)
	wantSpot(t, strings.Repeat("a", 199)+"(", 200, api.ErrForm)
	wantSpot(t, strings.Repeat("a", 200)+"*", 0, api.ErrLarge)

	got, err := Parse(strings.Repeat("a", 200))
	if err != nil || got.Op != api.Cat || len(got.Kids) != 200 {
		t.Error("200 bytes:", got, err)
	}
	want := oneOf("a")
	for range 199 {
		want = rep(0, 1, want)
	}
	wantNode(t, "a"+strings.Repeat("?", 199), want)
	wantNode(t, "["+strings.Repeat("a", 198)+"]", oneOf("a"))
	wantSpot(t, "["+strings.Repeat("a", 199)+"]", 0, api.ErrLarge)
}

func TestBytesThatCantStandThere(t *testing.T) {
	for _, c := range []struct {
		text string
		at   int
	}{
		{"|", 0}, {"|a", 0}, {"a||b", 2}, {"(|a)", 1}, {"a|)", 2}, {"(a|)", 3}, {"a|?", 2}, {"a|{2}", 2},
		{"()", 1}, {"a()", 2}, {"(())", 2}, {"a)", 1}, {"(a))", 3}, {")", 0}, {"a|b)", 3},
		{"(?", 1}, {"(?:a)", 1}, {"({", 1}, {"(]", 1}, {"(}", 1}, {"(^a)", 1}, {"(a$)", 2},
		{"a]", 1}, {"a}", 1}, {"a^", 1}, {"a$", 1}, {"[a]]", 3}, {"a{2}}", 4}, {"a?}", 2},
		{"a{}", 2}, {"a{,}", 2}, {"a{,2}", 2}, {"a{2,}", 4}, {"a{2,,3}", 4}, {"a{2,3,4}", 5}, {"a{2;3}", 3},
		{"a{x}", 2}, {"a{1x}", 3}, {"a{12x}", 4}, {"a{123}", 4}, {"a{001}", 4}, {"a{1,x}", 4}, {"a{1,2x}", 5},
		{"a{1,123}", 6}, {"a{1,12x}", 6}, {"a{-1}", 2}, {"a{ 1}", 2}, {"a{1 }", 3}, {"a{1, 2}", 4}, {"a{\\d}", 2},
		{"a{1)", 3}, {"a{1|", 3}, {"a{{", 2}, {"a{/}", 2}, {"a{:}", 2}, {"a{1/}", 3}, {"a{1:}", 3},
		{"a{33,x}", 5}, {"a{99,100}", 7},
		{"a{0}", 3}, {"a{00}", 4}, {"a{33}", 4}, {"a{0,0}", 5}, {"a{2,1}", 5}, {"a{32,31}", 7}, {"a{1,33}", 6},
		{"a{33,33}", 7}, {"a{33,32}", 7}, {"a{33}*", 4}, {"a{3,2}{", 5},
		{"[]", 1}, {"[]a]", 1}, {"[^]", 2}, {"[^]a]", 2}, {"[a-]", 3}, {"[^a-]", 4}, {"[--]", 3}, {"[ab-]", 4},
		{"[a-c-e-]", 7}, {"[\\d--]", 5}, {"[\\n-]", 4}, {"[\\--]", 4},
		{"[b-a]", 3}, {"[^b-a]", 4}, {"[xb-ay]", 4}, {"[a--]", 3}, {"[a-.]", 3}, {"[\\.-\\-]", 5}, {"[\\n-\\t]", 5},
		{"[b-\\t]", 4}, {"[\\}-a]", 4}, {"[b-a", 3}, {"[b-a*", 3}, {"[b-\\t", 4}, {"[\xff-\xfe]", 3}, {"[\x80-\x7f]", 3},
		{"[a-\\d]", 4}, {"[a-\\w]", 4}, {"[a-\\q]", 4}, {"[a-\\]", 4}, {"[\\q-a]", 2}, {"[\\D]", 2},
		{"\\q", 1}, {"\\D", 1}, {"\\W", 1}, {"\\s", 1}, {"\\\n", 1}, {"\\0", 1}, {"\\\xff", 1}, {"a|\\x41", 3},
	} {
		wantSpot(t, c.text, c.at, api.ErrForm)
	}
}

func TestTextsThatEndTooEarly(t *testing.T) {
	for _, text := range []string{
		"", "a|", "a|b|", "(", "(a", "((a)", "(a|", "(a?", "a(", "a|(b", "\\", "a\\", "(\\", "a|\\",
		"a{", "a{1", "a{12", "a{1,", "a{1,2", "a{1,12", "a{0", "a{33", "a{3,2", "a{99,99", "(a){2",
		"[", "[^", "[a", "[^a", "[a-", "[^a-", "[a-c", "[-", "[--", "[\\", "[a\\", "[a-\\", "[\\d", "[\\d-", "[[", "[^^",
		"[a\\]", "[A-\\]", "[\\n", "a[b", "([a])|(",
	} {
		wantSpot(t, text, len(text), api.ErrForm)
	}
}

func TestTheFirstFaultIsTold(t *testing.T) {
	for _, c := range []struct {
		text string
		at   int
		code api.Code
	}{
		{"a*)", 1, api.ErrStar},
		{"a)*", 1, api.ErrForm},
		{"a{0}*", 3, api.ErrForm},
		{"[b-a]*", 3, api.ErrForm},
		{"a*[b-a]", 1, api.ErrStar},
		{"(a*", 2, api.ErrStar},
		{"\\q*", 1, api.ErrForm},
		{"*" + strings.Repeat("(", 21), 0, api.ErrStar},
		{strings.Repeat("(", 21) + "*", 20, api.ErrLarge},
		{")" + strings.Repeat("(", 21), 0, api.ErrForm},
	} {
		wantSpot(t, c.text, c.at, c.code)
	}
}

func TestNoTextPanics(t *testing.T) {
	for a := range 256 {
		for b := range 256 {
			Parse(string([]byte{byte(a), byte(b)}))
		}
	}
	dice := rand.New(rand.NewPCG(2, 1))
	const often = "()[]{}|?*+^$.-\\,019adwnt"
	for range 200000 {
		b := make([]byte, dice.IntN(30))
		for i := range b {
			b[i] = often[dice.IntN(len(often))]
			if dice.IntN(20) == 0 {
				b[i] = byte(dice.IntN(256))
			}
		}
		Parse(string(b))
	}
}

// P2.2, as is the one behind it.
func TestWhatIsToldIsNewMemory(t *testing.T) {
	for _, text := range []string{"a", "abc", "a|b|c", "a?{2}", "(ab|c){2}(d|[e-g]?)h", "((a|b)c|d)?e"} {
		one, _ := Parse(text)
		two, _ := Parse(text)
		three, _ := Parse(text)
		scribble(one)
		if !reflect.DeepEqual(two, three) {
			t.Errorf("two answers of Parse(%q) share memory", text)
		}
		again, err := Parse(text)
		if err != nil || !reflect.DeepEqual(again, three) {
			t.Errorf("Parse(%q) is another one, once its answer was changed", text)
		}
	}
	_, one := Parse("a*")
	_, two := Parse("a*")
	one.(*api.Spot).At = 7
	if two.(*api.Spot).At != 1 {
		t.Error("two errors share memory")
	}
}

// scribble writes over all lists of a node, and over what they have room for.
func scribble(n api.Node) {
	for _, k := range n.Kids {
		scribble(k)
	}
	room := n.Kids[:cap(n.Kids)]
	for i := range room {
		room[i] = api.Node{Op: 99, Min: 99}
	}
}

func TestNoTwoListsShareMemory(t *testing.T) {
	n, err := Parse("(ab|cd)(ab|cd)?{2}|(ab|cd)e(f(g|h))")
	if err != nil {
		t.Fatal(err)
	}
	seen := map[*api.Node]bool{}
	var look func(n api.Node)
	look = func(n api.Node) {
		room := n.Kids[:cap(n.Kids)]
		for i := range room {
			if seen[&room[i]] {
				t.Fatal("two lists share memory")
			}
			seen[&room[i]] = true
		}
		for _, k := range n.Kids {
			look(k)
		}
	}
	look(n)
}
