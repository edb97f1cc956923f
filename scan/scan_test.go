package scan

import (
	"bytes"
	"fmt"
	"math"
	"math/rand/v2"
	"reflect"
	"runtime"
	"slices"
	"strings"
	"testing"

	"snaffle/api"
	"snaffle/mask"
	"snaffle/moore"
	"snaffle/rx"
	"snaffle/set"
	"snaffle/table"
)

// written reads rules: of each its pattern; a # ahead of it, which is none of it, stands for the check.
func written(t *testing.T, texts ...string) []mask.Rule {
	t.Helper()
	var l []mask.Rule
	for _, text := range texts {
		pattern, check := strings.CutPrefix(text, "#")
		n, err := rx.Parse(pattern)
		if err != nil {
			t.Fatalf("%q: %v", text, err)
		}
		l = append(l, mask.Rule{N: n, Luhn: check})
	}
	return l
}

func machine(t *testing.T, lambda int, texts ...string) moore.Machine {
	t.Helper()
	m, err := table.Build(written(t, texts...), lambda, 1000)
	if err != nil {
		t.Fatalf("%q, lambda %d: %v", texts, lambda, err)
	}
	return m
}

func engine(t *testing.T, lambda, q int, hide byte, texts ...string) *Engine {
	t.Helper()
	e := New(machine(t, lambda, texts...), lambda, q, hide)
	if e == nil {
		t.Fatalf("%q, lambda %d, q %d: no engine", texts, lambda, q)
	}
	return e
}

// wantError wants this Code itself.
func wantError(t *testing.T, name string, err error, want api.Code) {
	t.Helper()
	if code, ok := err.(api.Code); !ok || code != want {
		t.Errorf("%s: %v, not %v", name, err, want)
	}
}

func wantHeld(t *testing.T, name string, e *Engine, held, waiting int) {
	t.Helper()
	if h, w := e.Held(); h != held || w != waiting {
		t.Errorf("%s: %d held back, %d wait, not %d, %d", name, h, w, held, waiting)
	}
}

func pushAll(t *testing.T, e *Engine, x string) {
	t.Helper()
	for i := range len(x) {
		if err := e.Push(x[i]); err != nil {
			t.Fatalf("push %d of %q: %v", i, x, err)
		}
	}
}

// released tells all that waits, and that Release tells there is no more.
func released(t *testing.T, e *Engine) string {
	t.Helper()
	var l []byte
	_, waiting := e.Held()
	for range waiting {
		b, err := e.Release()
		if err != nil {
			t.Fatalf("release: %v", err)
		}
		l = append(l, b)
	}
	b, err := e.Release()
	if wantError(t, "no more waits", err, api.ErrArg); b != 0 {
		t.Errorf("no more waits: %d", b)
	}
	return string(l)
}

// through has bytes go through, and tells what comes out.
func through(t *testing.T, e *Engine, x string) string {
	t.Helper()
	out := ""
	for i := range len(x) {
		pushAll(t, e, x[i:i+1])
		out += released(t, e)
	}
	if err := e.Drain(); err != nil {
		t.Fatalf("drain: %v", err)
	}
	return out + released(t, e)
}

// P17.1, as are all up to TestAnswersToErrors.
func TestNew(t *testing.T) {
	for _, c := range []struct {
		lambda, q int
		ok        bool
	}{
		{1, 1, true}, {1, 1024, true}, {32, 1, true}, {32, 1024, true}, {2, 2, true}, {31, 1023, true}, {17, 500, true},
		{0, 1, false}, {-1, 1, false}, {33, 1, false}, {64, 64, false}, {math.MinInt, 1, false}, {math.MaxInt, 1, false}, {1<<32 + 1, 1, false},
		{1, 0, false}, {1, -1, false}, {1, 1025, false}, {32, 1025, false}, {32, 0, false}, {1, 200000, false}, {1, math.MinInt, false}, {1, math.MaxInt, false}, {1, 1<<32 + 1, false},
		{0, 0, false}, {33, 1025, false}, {math.MaxInt, math.MaxInt, false}, {math.MinInt, math.MinInt, false}, {math.MaxInt, math.MinInt, false},
	} {
		lambda := max(1, min(32, c.lambda))
		for _, texts := range [][]string{nil, {"ab", "#\\d"}} {
			e := New(machine(t, lambda, texts...), c.lambda, c.q, '*')
			if (e != nil) != c.ok {
				t.Errorf("%q, lambda %d, q %d: %v", texts, c.lambda, c.q, e != nil)
			}
			if e != nil {
				wantHeld(t, "new", e, 0, 0)
			}
		}
	}
}

// words tells a machine of many words of lambda bytes, the first ones of which are all those of the alphabet.
func words(t *testing.T, many, lambda, alphabet int) moore.Machine {
	t.Helper()
	dice := rand.New(rand.NewPCG(17, 0))
	var l []mask.Rule
	for i := range many {
		n := api.Node{Op: api.Cat}
		for j := range lambda {
			b := i*lambda + j
			if b >= alphabet {
				b = dice.IntN(alphabet)
			}
			n.Kids = append(n.Kids, api.Node{Op: api.One, Set: set.Of([]byte{byte(b)})})
		}
		l = append(l, mask.Rule{N: n})
	}
	m, err := table.Build(l, lambda, 1000)
	if err != nil {
		t.Fatal(err)
	}
	return m
}

// Machines so great that q alone has the cells be as many as there may be, or one more.
func TestCells(t *testing.T) {
	for _, c := range []struct{ many, lambda, alphabet int }{{31, 32, 203}, {121, 8, 231}, {62, 15, 224}, {45, 22, 206}} {
		m := words(t, c.many, c.lambda, c.alphabet)
		states, classes := len(m.Next), m.Classes
		most := 200000 - 256 - states*classes - 2*states - 3*c.lambda - 64
		if most < 1 || most >= 1024 {
			t.Fatalf("%v: the edge is q %d", c, most)
		}
		for _, q := range []int{1, most - 1, most, most + 1, most + 2, 1024} {
			if e := New(m, c.lambda, q, '*'); (e != nil) != (q <= most) {
				t.Errorf("%v: %d states, %d classes, q %d: %v", c, states, classes, q, e != nil)
			}
		}
		if c.lambda > 8 {
			continue
		}
		// One that may just be works as any other one.
		e := New(m, c.lambda, most, '*')
		w := make([]byte, c.lambda)
		for i := range w {
			w[i] = byte(i)
		}
		want := "\xff" + strings.Repeat("*", c.lambda) + "\x00\x01"
		if got := through(t, e, "\xff"+string(w)+"\x00\x01"); got != want {
			t.Errorf("%v: %q, not %q", c, got, want)
		}
	}
}

func TestTooManyCells(t *testing.T) {
	m := words(t, 25, 32, 255)
	for _, q := range []int{1, 2, 1024} {
		if New(m, 32, q, '*') != nil {
			t.Errorf("%d states, %d classes, q %d: an engine", len(m.Next), m.Classes, q)
		}
	}
}

// run does calls, one a byte: of a script any letter is pushed, > is Drain, < is Release. It tells of each what it released, or
// A, C, F for ErrArg, ErrClosed, ErrFull, or a point.
func run(t *testing.T, e *Engine, script string) string {
	t.Helper()
	answers := ""
	for _, x := range []byte(script) {
		var err error
		answer := "."
		switch x {
		case '>':
			err = e.Drain()
		case '<':
			var b byte
			b, err = e.Release()
			if err != nil && b != 0 {
				t.Errorf("%s: %d is told beside %v", script, b, err)
			}
			answer = string([]byte{b})
		default:
			err = e.Push(x)
		}
		if err != nil {
			code, _ := err.(api.Code)
			answer = map[api.Code]string{api.ErrArg: "A", api.ErrClosed: "C", api.ErrFull: "F"}[code]
			if answer == "" {
				t.Fatalf("%s: %v", script, err)
			}
		}
		answers += answer
	}
	return answers
}

func TestCalls(t *testing.T) {
	for _, c := range []struct {
		lambda, q     int
		script, want  string
		held, waiting int
	}{
		// The chapter's example.
		{1, 1, "ab<", "..a", 1, 0},

		{1, 1, "", "", 0, 0},
		{1, 1, "a", ".", 1, 0},
		{1, 1, "ab", "..", 1, 1},
		{1, 1, "abc", "..F", 1, 1},
		{1, 1, "abccc<", "..FFFa", 1, 0},
		{1, 1, "abc<d<e<f<", "..Fa.b.d.e", 1, 0},
		{1, 1, "<", "A", 0, 0},
		{1, 1, "a<", ".A", 1, 0},
		{1, 1, "ab<<", "..aA", 1, 0},
		{1, 2, "abcd<<<", "...FabA", 1, 0},
		{1, 3, "abcde<<<<", "....FabcA", 1, 0},
		{2, 1, "abc", "...", 2, 1},
		{2, 1, "abcd", "...F", 2, 1},
		{2, 1, "abc<<d<e", "...aA.b.", 2, 1},
		{3, 2, "abcde", ".....", 3, 2},
		{3, 2, "abcdefg", ".....FF", 3, 2},
		{3, 2, "abcde<f<g<h<", ".....a.b.c.d", 3, 1},

		// Around the queue, with one, some and all places of it in use.
		{1, 3, "ab<c<d<e<f<g<h<", "..a.b.c.d.e.f.g", 1, 0},
		{1, 3, "abcd<<<efg<<<hij<<<", "....abc...def...ghi", 1, 0},
		{1, 3, "abc<de<fg<hi<j", "...a..b.Fc.Fd.", 1, 3},
		{2, 4, "abcdef<<<ghi<<<<jklm<<<<", "......abc...defg....hijk", 2, 0},

		{1, 1, ">", ".", 0, 0},
		{1, 1, "><", ".A", 0, 0},
		{1, 1, ">>", ".C", 0, 0},
		{1, 1, ">a", ".C", 0, 0},
		{1, 1, ">a><", ".CCA", 0, 0},
		{1, 1, "a>", "..", 0, 1},
		{1, 1, "a><<", "..aA", 0, 0},
		{1, 1, "a>b<b<", "..CaCA", 0, 0},
		{1, 1, "ab>", "...", 0, 2},
		{1, 1, "ab>cc>>", "...CCCC", 0, 2},
		{1, 1, "ab><<<", "...abA", 0, 0},
		{1, 1, "abc><c<<", "..F.aCbA", 0, 0},
		{1, 1, "ab<>", "..a.", 0, 1},
		{3, 2, "a><<", "..aA", 0, 0},
		{3, 2, "ab><<<", "...abA", 0, 0},
		{3, 2, "abc>", "....", 0, 3},
		{3, 2, "abc><<<<", "....abcA", 0, 0},
		{3, 2, "abcd>", ".....", 0, 4},
		{3, 2, "abcd><<<<<", ".....abcdA", 0, 0},
		{3, 2, "abcdef>", ".....F.", 0, 5},
		{3, 2, "abcde><<<<<<", "......abcdeA", 0, 0},
		{3, 2, "abcde><<>f<<>f<<", "......abCCcdCCeA", 0, 0},
		{3, 2, "abcde<f<g><<<<<<", ".....a.b..cdefgA", 0, 0},
		{3, 2, "abcde<<><<<<", ".....ab.cdeA", 0, 0},
		{3, 2, "abcde<<<><<<<", ".....abA.cdeA", 0, 0},
		{2, 5, "abcdefg<<<hi><<<<<<<", ".......abc...defghiA", 0, 0},
	} {
		e := engine(t, c.lambda, c.q, '*')
		if got := run(t, e, c.script); got != c.want {
			t.Errorf("lambda %d, q %d, %s: %s, not %s", c.lambda, c.q, c.script, got, c.want)
		}
		wantHeld(t, c.script, e, c.held, c.waiting)
	}
}

// Each number of bytes, up to what there is room for, and one more.
func TestHeld(t *testing.T) {
	for _, c := range []struct{ lambda, q int }{{1, 1}, {1, 5}, {5, 1}, {4, 4}, {32, 1}, {32, 3}, {3, 70}, {1, 1024}, {32, 1024}} {
		x := strings.Repeat("0123456789abcdef", 70)[:c.lambda+c.q]
		for n := range len(x) + 1 {
			// The greater ones are looked at here and there alone.
			if n > 5 && n%251 > 0 && (n < c.lambda-1 || n > c.lambda+1) && n < len(x)-1 {
				continue
			}
			name := fmt.Sprintf("lambda %d, q %d, %d bytes", c.lambda, c.q, n)
			e := engine(t, c.lambda, c.q, '*', "z")
			pushAll(t, e, x[:n])
			wantHeld(t, name, e, min(n, c.lambda), max(0, n-c.lambda))
			if n == len(x) {
				wantError(t, name, e.Push('x'), api.ErrFull)
				wantHeld(t, name, e, c.lambda, c.q)
			}
			if err := e.Drain(); err != nil {
				t.Errorf("%s: %v", name, err)
			}
			wantHeld(t, name+", drained", e, 0, n)
			wantError(t, name, e.Push('x'), api.ErrClosed)
			wantError(t, name, e.Drain(), api.ErrClosed)
			wantHeld(t, name+", drained again", e, 0, n)
			if got := released(t, e); got != x[:n] {
				t.Errorf("%s: %q", name, got)
			}
			wantHeld(t, name+", released", e, 0, 0)
			wantError(t, name, e.Drain(), api.ErrClosed)
			wantError(t, name, e.Push('x'), api.ErrClosed)
		}
	}
}

// What tells an error changes nothing: not what waits, not what is under way, not what is told later.
func TestAnswersToErrors(t *testing.T) {
	script, want := "1<2<a<bx<<cx<>x><<<<", ".A.A.A.F1A.F2.CC***A"
	if got := run(t, engine(t, 3, 1, '*', "abc", "x"), script); got != want {
		t.Errorf("%s: %s, not %s", script, got, want)
	}
}

// P17.2, as are all up to TestEachMask.
func TestHidden(t *testing.T) {
	for _, c := range []struct {
		lambda int
		rules  string // with blanks between; a point stands for no rules
		x      string
		want   string
	}{
		{1, ".", "", ""},
		{1, "a", "", ""},
		{32, "a", "", ""},
		{1, "a", "a", "*"},
		{32, "a", "a", "*"},
		{1, "a", "b", "b"},
		{1, "a", "abcaabca", "*bc**bc*"},
		{32, "a", "abcaabca", "*bc**bc*"},
		{1, "[^a]", "abcaa", "a**aa"},
		{2, "ab", "ab", "**"},
		{2, "ab", "a", "a"},
		{2, "ab", "ba", "ba"},
		{2, "ab", "aab", "a**"},
		{2, "ab", "abb", "**b"},
		{32, "ab", "xabxabab", "x**x****"},

		// Over one another, in one another, side by side.
		{3, "aba", "xababax", "x*****x"},
		{3, "aba", "abababa", "*******"},
		{4, "aba", "abaxaba", "***x***"},
		{4, "ab bc", "xabcx", "x***x"},
		{4, "abc b", "abxabc", "a*x***"},
		{4, "abcd bc", "abcxabcd", "a**x****"},
		{4, "abcd cdef", "abcdef", "******"},
		{4, "abcd cd", "bcd", "b**"},
		{4, "a{2,4}", "baaaaaab", "b******b"},
		{4, "a{2,4}", "bab", "bab"},
		{4, "aa|aaaa", "xaaax", "x***x"},
		{6, "a.{4}b", "a12345b", "a12345b"},
		{6, "a.{4}b", "a1234b", "******"},
		{6, "a.{4}b", "aa234bb", "*******"},

		// Longer words than lambda aren't told of; those of lambda bytes are.
		{2, "abc", "abc", "abc"},
		{3, "abc", "abc", "***"},
		{2, "ab?c", "abc ac", "abc **"},
		{32, "x{32}", strings.Repeat("x", 31), strings.Repeat("x", 31)},
		{32, "x{32}", strings.Repeat("x", 32), strings.Repeat("*", 32)},
		{32, "x{32}", "y" + strings.Repeat("x", 33) + "y", "y" + strings.Repeat("*", 33) + "y"},
		{32, "yx{31}", "yy" + strings.Repeat("x", 32), "y" + strings.Repeat("*", 32) + "x"},

		// What the mask makes is looked at no more, and the mask is a byte like any other.
		{2, "a \\*b", "ab*b", "*b**"},
		{2, "\\*b", "*b*a", "***a"},

		// The check: of no digits and of one it isn't Ok.
		{1, "#.", "0a5", "0a5"},
		{2, "#.{1,2}", "0", "0"},
		{2, "#\\d{2}", "00", "**"},
		{2, "#\\d{2}", "18", "**"},
		{2, "#\\d{2}", "19", "19"},
		{2, "#\\d{2}", "81", "81"},
		{2, "#\\d{2}", "26 34 42 59 67 75 83 91 00", "** ** ** ** ** ** ** ** **"},
		{2, "#\\d{2}", "x18x19x0091", "x**x19x****"},
		{2, "\\d{2}", "19", "**"},
		{2, "\\d{2} #..", "19", "**"},
		{2, "#\\d{2} #..", "18/ab", "**/ab"},
		{3, "#\\d{3}", "018 019 034 035 109 119", "*** 019 *** 035 *** 119"},
		{3, "#\\d{2,3}", "018", "***"},
		{3, "#\\d{3}", "182 183 190 191 380 381", "*** 183 *** 191 *** 381"},
		{3, "#\\d{3}", "125 133 141 208 216 265 811", "*** *** *** *** *** *** 811"},

		// Bytes that are none of digits, beside the digits, and within.
		{4, "#...", "1a8b1/8:x1:8", "***b***:x***"},
		{3, "#...", "1\x008\x001\xff8", "***\x00***"},
		{3, "#...", "1/8\x001:8\xff1\xb18\xff", "***\x00***\xff***\xff"},
		{4, "#.{4}", "a1b8", "****"},
		{4, "#.{4}", "ab18", "****"},
		{4, "#.{4}", "18ab", "****"},
		{4, "#.{4}", "a1b9", "a1b9"},
		{4, "#.{4}", "abcd", "abcd"},
		{4, "#.{4}", "abc0", "abc0"},
		{5, "#\\d-\\d{1,2}", "1-8 1-9 1-80", "*** 1-9 ***0"},

		// Each length has its own sum.
		{4, "#\\d{2,4}", "1182", "1***"},
		{4, "#\\d{2} #\\d{4}", "0018", "****"},
		{4, "#\\d{4}", "1018 1008 1009", "1018 **** 1009"},
		{4, "#\\d{4}", "1016 1017", "**** 1017"},
		{11, "#\\d{11}", "79927398713 79927398710", "*********** 79927398710"},
		{16, "#\\d{13,16}", "n 4111111111111111.", "n ****************."},
		// The last 13 of them are Ok, all 16 aren't.
		{16, "#\\d{13,16}", "4111111111111112", "411*************"},
		{16, "#\\d{16}", "04111111111111111", "0****************"},
		{16, "#\\d{16}", "4111111111111112", "4111111111111112"},
		{19, "#\\d{4}(-\\d{4}){3}", "4111-1111-1111-1111-", "*******************-"},
		{19, "#\\d{4}(-\\d{4}){3}", "4111-1111-1111-1112-", "4111-1111-1111-1112-"},
		{32, "#0{32}", strings.Repeat("0", 32), strings.Repeat("*", 32)},
		{32, "#5{32}", strings.Repeat("5", 31), strings.Repeat("5", 31)},
		{32, "#9{20}", strings.Repeat("9", 20), strings.Repeat("*", 20)},
		{32, "#9{32}", strings.Repeat("9", 32), strings.Repeat("9", 32)},
	} {
		var texts []string
		if c.rules != "." {
			texts = strings.Split(c.rules, " ")
		}
		for _, q := range []int{1, 2, 7} {
			if got := through(t, engine(t, c.lambda, q, '*', texts...), c.x); got != c.want {
				t.Errorf("%s, lambda %d, q %d, %q: %q, not %q", c.rules, c.lambda, q, c.x, got, c.want)
			}
		}
		// All at once, as far as there is room: what is hidden hangs on no Release.
		if e := engine(t, c.lambda, max(1, len(c.x)), '*', texts...); e != nil {
			pushAll(t, e, c.x)
			if err := e.Drain(); err != nil {
				t.Error(err)
			}
			if got := released(t, e); got != c.want {
				t.Errorf("%s, lambda %d, all at once, %q: %q, not %q", c.rules, c.lambda, c.x, got, c.want)
			}
		}
	}
}

// A machine may tell of longer words than lambda is: these hide nothing.
func TestLongerWords(t *testing.T) {
	m := machine(t, 32, "abcd", "bc", "#\\d{3}", "#\\d{32}")
	for _, c := range []struct {
		lambda  int
		x, want string
	}{
		{1, "abcd 018", "abcd 018"}, {2, "abcd 018", "a**d 018"}, {3, "abcd 018", "a**d ***"}, {4, "abcd 018", "**** ***"},
		{31, strings.Repeat("1", 31) + "3x", strings.Repeat("1", 31) + "3x"}, {32, strings.Repeat("1", 31) + "3x", strings.Repeat("*", 32) + "x"},
	} {
		if got := through(t, New(m, c.lambda, 1, '*'), c.x); got != c.want {
			t.Errorf("lambda %d, %q: %q, not %q", c.lambda, c.x, got, c.want)
		}
	}
}

// All digits, and all bytes beside a digit: which are Ok as two, as layer 8's words have it.
func TestEachPair(t *testing.T) {
	e := engine(t, 2, 1, '*', "#[\x00-\xff]{2}")
	var x, want []byte
	pair := func(a, b byte) {
		ok := false
		if a >= '0' && a <= '9' && b >= '0' && b <= '9' {
			twice := 2 * int(a-'0')
			ok = (twice/10+twice%10+int(b-'0'))%10 == 0
		}
		x = append(x, a, b, 'x', 'x')
		if ok {
			a, b = '*', '*'
		}
		want = append(want, a, b, 'x', 'x')
	}
	for a := range 256 {
		for b := range byte(10) {
			pair(byte(a), '0'+b)
			pair('0'+b, byte(a))
		}
	}
	if got := through(t, e, string(x)); got != string(want) {
		for i := range got {
			if got[i] != want[i] {
				t.Fatalf("pair %q: %q, not %q", x[i/4*4:i/4*4+4], got[i/4*4:i/4*4+4], want[i/4*4:i/4*4+4])
			}
		}
		t.Fatal("of another length")
	}
}

// Each byte goes through as itself, or as the mask.
func TestEachByte(t *testing.T) {
	var all []byte
	for b := range 256 {
		all = append(all, byte(b))
	}
	for _, lambda := range []int{1, 2, 32} {
		if got := through(t, engine(t, lambda, 3, '*'), string(all)); got != string(all) {
			t.Errorf("lambda %d, no rules: %q", lambda, got)
		}
		if got := through(t, engine(t, lambda, 3, '*', "[\x00-\xff]"), string(all)); got != strings.Repeat("*", 256) {
			t.Errorf("lambda %d, all bytes: %q", lambda, got)
		}
	}
	for b := range 256 {
		n := api.Node{Op: api.One, Set: set.Of([]byte{byte(b)})}
		m, err := table.Build([]mask.Rule{{N: n}}, 2, 9)
		if err != nil {
			t.Fatal(err)
		}
		x := []byte{byte(b), byte(b + 1), byte(b - 1), byte(b), byte(b ^ 128), byte(b ^ 64), byte(b ^ 1)}
		want := slices.Clone(x)
		want[0], want[3] = 255-byte(b), 255-byte(b)
		if got := through(t, New(m, 2, 1, 255-byte(b)), string(x)); got != string(want) {
			t.Errorf("byte %d: %q, not %q", b, got, want)
		}
	}
}

func TestEachMask(t *testing.T) {
	for b := range 256 {
		hide := string([]byte{byte(b)})
		e := engine(t, 3, 2, byte(b), "ab", "#\\d{2}")
		if got, want := through(t, e, "xabx180"), "x"+hide+hide+"x"+hide+hide+"0"; got != want {
			t.Errorf("mask %d: %q, not %q", b, got, want)
		}
	}
}

func ops(l []api.Insn, op int) int {
	n := 0
	for _, x := range l {
		if x.Op == op {
			n++
		}
	}
	return n
}

// P17.3, as are all up to TestTraceOfNoByte.
func TestTraceOfEachCall(t *testing.T) {
	for _, c := range []struct {
		lambda, q int
		texts     []string
	}{{1, 1, nil}, {1, 3, []string{"a"}}, {3, 1, []string{"abc", "#\\d\\d"}}, {3, 4, []string{"abc", "#\\d\\d"}}, {32, 5, []string{"#\\d{13,16}", "key-\\w{4}"}}} {
		e := engine(t, c.lambda, c.q, '*', c.texts...)
		name := fmt.Sprintf("%q, lambda %d, q %d", c.texts, c.lambda, c.q)
		want := func(what string, many, in, emit int) {
			t.Helper()
			l := e.Trace()
			if len(l) != many || ops(l, api.In) != in || ops(l, api.Emit) != emit {
				t.Errorf("%s, %s: %d instructions, %d In, %d Emit, not %d, %d, %d", name, what, len(l), ops(l, api.In), ops(l, api.Emit), many, in, emit)
			}
			for _, x := range l {
				if x.Op == api.In && x.N != 0 {
					t.Errorf("%s, %s: %v", name, what, x)
				}
			}
			if l := e.Trace(); len(l) != 0 {
				t.Errorf("%s, behind %s: %d instructions once more", name, what, len(l))
			}
		}
		want("new", 0, 0, 0)
		e.Release()
		want("release of none", 0, 0, 0)
		pushAll(t, e, "k")
		usual := e.Trace()
		if ops(usual, api.In) != 1 || ops(usual, api.Emit) != 0 {
			t.Errorf("%s: %d In, %d Emit in a Push", name, ops(usual, api.In), ops(usual, api.Emit))
		}
		for i := 1; i < c.lambda; i++ {
			pushAll(t, e, "key-4111\x00\xff"[i%10:i%10+1])
			want("push", len(usual), 1, 0)
		}
		for round := range 3 {
			_, waiting := e.Held()
			for range c.q - waiting {
				pushAll(t, e, "ab18"[round:round+1])
				want("push, and one comes to wait", len(usual)+1, 1, 0)
			}
			for range 2 {
				e.Push('x')
				want("push that is too many", 0, 0, 0)
			}
			e.Held()
			want("held", 0, 0, 0)
			for range c.q - round%2 {
				e.Release()
				want("release", 1, 0, 1)
			}
		}
		e.Drain()
		want("drain", c.lambda, 0, 0)
		e.Drain()
		want("drain once more", 0, 0, 0)
		e.Push('x')
		want("push behind drain", 0, 0, 0)
		for _, waiting := e.Held(); waiting > 0; _, waiting = e.Held() {
			e.Release()
			want("release behind drain", 1, 0, 1)
		}
		e.Release()
		want("release of no more", 0, 0, 0)
	}
}

// Drain has one instruction for each byte that is held back, however many these are.
func TestTraceOfDrain(t *testing.T) {
	for _, lambda := range []int{1, 2, 5, 32} {
		for n := range lambda + 3 {
			e := engine(t, lambda, 2, '*', "ab")
			pushAll(t, e, strings.Repeat("abc", 20)[:n])
			e.Trace()
			e.Drain()
			if l := e.Trace(); len(l) != min(n, lambda) {
				t.Errorf("lambda %d, %d bytes: %d instructions", lambda, n, len(l))
			}
		}
	}
}

// What is told at the end is what is told on the way, one behind the other.
func TestTraceOfAll(t *testing.T) {
	for _, script := range []string{"", "<", "a", "abcdef<<<<", "abc<de<fg<hi<j<<<kl>m<<<<<<<<<", "a>b<b<", ">", "abcdefghij>>j<<<<<<<<<<"} {
		for _, every := range []int{1, 2, 3, 5} {
			one, other := engine(t, 2, 3, '*', "ab", "#\\d"), engine(t, 2, 3, '*', "ab", "#\\d")
			var l []api.Insn
			for i := range len(script) {
				run(t, one, script[i:i+1])
				run(t, other, script[i:i+1])
				if i%every == 0 {
					l = append(l, one.Trace()...)
				}
			}
			l = append(l, one.Trace()...)
			if all := other.Trace(); !slices.Equal(l, all) {
				t.Errorf("%s, every %d: %d instructions, not %d, or others", script, every, len(l), len(all))
			}
		}
	}
}

// Each instruction may be of the cells that there are, and the trace of one Push is that of any other one: of no byte.
func TestTraceOfNoByte(t *testing.T) {
	texts := []string{"a{2,4}", "#\\d{2,3}", "k\\w"}
	m := machine(t, 4, texts...)
	cells := 256 + len(m.Next)*m.Classes + 2*len(m.Next) + 3*4 + 5 + 64
	zeros := New(m, 4, 5, '*')
	script := "aaaabb<<1800kk<x<<<y<a<>a<<<<<<<<<"
	var kinds string
	for _, x := range script {
		if x != '<' && x != '>' {
			x = 0
		}
		kinds += string(x)
	}
	run(t, zeros, kinds)
	want := zeros.Trace()
	for _, x := range want {
		for _, cell := range []int{x.D, x.A, x.B, x.C} {
			if cell < 0 || cell >= cells {
				t.Fatalf("%+v is of more than %d cells", x, cells)
			}
		}
	}
	for b := range 256 {
		if b == '<' || b == '>' {
			continue
		}
		e := New(m, 4, 5, '*')
		run(t, e, strings.ReplaceAll(kinds, "\x00", string([]byte{byte(b)})))
		if !slices.Equal(e.Trace(), want) {
			t.Errorf("byte %d alone: another trace", b)
		}
	}
	e := New(m, 4, 5, '*')
	run(t, e, script)
	if !slices.Equal(e.Trace(), want) {
		t.Errorf("%s: another trace", script)
	}
}

// P1: bytes without end may go through while nobody asks for a trace: it is some 45 KB a byte, which isn't kept.
func TestManyBytesWithoutTrace(t *testing.T) {
	e := engine(t, 1, 1, '*')
	use := func() uint64 {
		var m runtime.MemStats
		runtime.GC()
		runtime.ReadMemStats(&m)
		return m.HeapAlloc
	}
	ahead := use()
	for range 15000 {
		pushAll(t, e, "a")
		e.Release()
	}
	if behind := use(); behind > ahead+20<<20 {
		t.Errorf("%d bytes in use, %d ahead", behind, ahead)
	}
	e.Held()
}

// P17.4: what was told is its receiver's.
func TestNewMemory(t *testing.T) {
	one, other := engine(t, 3, 4, '*', "ab", "#\\d\\d"), engine(t, 3, 4, '*', "ab", "#\\d\\d")
	for _, x := range []string{"a", "b", "x", "1", "8", "<", "y", "<", "<", ">", "<", "<", "<"} {
		if a, b := run(t, one, x), run(t, other, x); a != b {
			t.Errorf("%s: %q, not %q", x, a, b)
		}
		l, want := one.Trace(), other.Trace()
		if !slices.Equal(l, want) {
			t.Fatalf("%s: another trace behind one that was changed", x)
		}
		for i := range l {
			l[i] = api.Insn{Op: 77, D: -1, A: -1, B: -1, C: -1, N: 7}
		}
		l = append(l, api.Insn{Op: 99})
		if len(one.Trace()) != 0 {
			t.Errorf("%s: a trace once more", x)
		}
	}
}

// R2: the machine of states stays as it is, and isn't kept.
func TestMachineIsNotKept(t *testing.T) {
	m, same := machine(t, 4, "ab", "#\\d\\d"), machine(t, 4, "ab", "#\\d\\d")
	a, b := New(m, 4, 3, '*'), New(m, 4, 3, '-')
	if got := through(t, a, "xabx18"); got != "x**x**" {
		t.Error(got)
	}
	if !reflect.DeepEqual(m, same) {
		t.Error("the machine is changed")
	}
	for i := range m.Next {
		clear(m.Next[i])
		m.Out[i] = api.Out{Plain: math.MaxUint64, Luhn: math.MaxUint64}
	}
	clear(m.Class[:])
	m.Next, m.Out, m.Classes = nil, nil, 0
	if got := through(t, b, "xabx18"); got != "x--x--" {
		t.Error(got)
	}
}

// P17.5, with q bytes that wait ahead of each Drain.
func TestMask(t *testing.T) {
	rules := []string{"a{2,4}", "#\\d{2,3}", "k[\\w-]{5}"}
	x := []byte("aba 18 baaab k1234-9 026 key-ab aaaaak0000018")
	for _, q := range []int{1, 2, 5, 13, 44, 45} {
		for n := range x {
			e := engine(t, 6, q, '*', rules...)
			var got []byte
			for i, b := range x[:n] {
				if e.Push(b) != nil {
					got = append(got, released(t, e)...)
					pushAll(t, e, string(x[i:i+1]))
				}
			}
			want := mask.Mask(written(t, rules...), 6, '*', x[:n])
			if got = append(got, released(t, e)...); !bytes.HasPrefix(want, got) {
				t.Fatalf("q %d, %q: %q, and not %q", q, x[:n], got, want)
			}
			e.Drain()
			if got = append(got, released(t, e)...); !bytes.Equal(want, got) {
				t.Fatalf("q %d, %q: %q, and not %q", q, x[:n], got, want)
			}
		}
	}
}
