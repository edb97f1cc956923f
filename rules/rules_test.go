package rules

import (
	"slices"
	"strings"
	"testing"
	"unsafe"

	"snaffle/api"
)

// without and with tell a rule without, and with the check of digits.
func without(name, pattern string) api.Rule { return api.Rule{Name: name, Pattern: pattern} }

func with(name, pattern string) api.Rule {
	return api.Rule{Name: name, Pattern: pattern, Luhn: true}
}

func wantRules(t *testing.T, text string, want ...api.Rule) {
	t.Helper()
	if l, err := Parse(text); !slices.Equal(l, want) || err != nil {
		t.Errorf("Parse(%.300q): %#v, %v, not %#v", text, l, err, want)
	}
}

// wantFault asks twice, and spoils the first Spot, since each one is new memory.
func wantFault(t *testing.T, text string, at int, code api.Code) {
	t.Helper()
	for range 2 {
		l, err := Parse(text)
		spot, ok := err.(*api.Spot)
		if !ok || *spot != (api.Spot{At: at, Code: code}) || len(l) != 0 {
			t.Errorf("Parse(%.300q): %#v, %v, not %v at %d", text, l, err, code, at)
			return
		}
		*spot = api.Spot{At: -1, Code: -1}
	}
}

// P14.1, as are all up to TestShow.
func TestParse(t *testing.T) {
	for _, c := range []struct {
		text string
		want []api.Rule
	}{
		// The chapter's example.
		{`card \d{16} luhn`, []api.Rule{with("card", `\d{16}`)}},

		{"a b plain", []api.Rule{without("a", "b")}},
		{"a b plain\n", []api.Rule{without("a", "b")}},
		{"a b luhn\nc d plain\ne f luhn\n", []api.Rule{with("a", "b"), without("c", "d"), with("e", "f")}},
		{"b x plain\na x plain", []api.Rule{without("b", "x"), without("a", "x")}},

		// The pattern is looked at no more, also where it is none, or holds what else a line is made of.
		{"a * plain", []api.Rule{without("a", "*")}},
		{"a ([ plain", []api.Rule{without("a", "([")}},
		{"a # plain", []api.Rule{without("a", "#")}},
		{"a luhn plain", []api.Rule{without("a", "luhn")}},
		{"a plain luhn", []api.Rule{with("a", "plain")}},
		{"a b plain luhn", []api.Rule{with("a", "b plain")}},
		{"a b luhn plain", []api.Rule{without("a", "b luhn")}},
		{"a b c d plain", []api.Rule{without("a", "b c d")}},
		{"plain plain plain", []api.Rule{without("plain", "plain")}},
		{"luhn luhn luhn", []api.Rule{with("luhn", "luhn")}},

		// Spaces at its front, at its end, and alone.
		{"a  b plain", []api.Rule{without("a", " b")}},
		{"a b  plain", []api.Rule{without("a", "b ")}},
		{"a  b  luhn", []api.Rule{with("a", " b ")}},
		{"a   plain", []api.Rule{without("a", " ")}},
		{"a    plain", []api.Rule{without("a", "  ")}},

		// It is bytes, whatever they are.
		{"a \x00 plain", []api.Rule{without("a", "\x00")}},
		{"a \xff\xfe luhn", []api.Rule{with("a", "\xff\xfe")}},
		{"a \u00e9\u3000 plain", []api.Rule{without("a", "\u00e9\u3000")}},
		{"a \t plain", []api.Rule{without("a", "\t")}},
		{"a b\r plain", []api.Rule{without("a", "b\r")}},
		{"a " + strings.Repeat("x", 201) + " plain", []api.Rule{without("a", strings.Repeat("x", 201))}},

		// Names with all that they may have.
		{"- x plain", []api.Rule{without("-", "x")}},
		{"_ x plain", []api.Rule{without("_", "x")}},
		{"0 x plain", []api.Rule{without("0", "x")}},
		{"a-z_0-9 x plain", []api.Rule{without("a-z_0-9", "x")}},
		{"abcdefghijklmnop x plain\nqrstuvwxyz012345 x plain\n6789-_ x plain", []api.Rule{without("abcdefghijklmnop", "x"), without("qrstuvwxyz012345", "x"), without("6789-_", "x")}},
	} {
		wantRules(t, c.text, c.want...)
	}
}

func TestLinesThatTellNothing(t *testing.T) {
	for _, text := range []string{
		"", "\n", "\n\n\n", "#", "##", "#\n", "\n#\n\n#", "# a b plain", "#a b plain", "#a b plain\n#a c plain", "#\x00\xff\r", "# A b plain", "#" + strings.Repeat("x", 3999),
	} {
		wantRules(t, text)
	}
	wantRules(t, "\n\na b plain\n\n#a c plain\nb c luhn\n\n", without("a", "b"), with("b", "c"))
	wantRules(t, "# a b plain\na b plain\n# a b plain", without("a", "b"))

	// What begins with another byte, or has any at all, tells something.
	for _, line := range []string{" ", "  ", "   ", "\t", "\r", " #", "\t#", "a#", "\x00", "\xef\xbb\xbf#", "//", ";", "-", "\v", "\u2028"} {
		wantFault(t, line, 0, api.ErrForm)
		wantFault(t, "a b plain\n#\n\n"+line+"\n#", 3, api.ErrForm)
	}
}

func TestWhatIsNoRulesLine(t *testing.T) {
	for _, line := range []string{
		// Too few spaces, or no byte between the first and the last.
		"a", "plain", "a b", "a plain", "a luhn", "abplain", "a bplain", "ab plain", "a  plain", "a  luhn", "a ", " plain", "a  ",

		// A name that is none.
		" a plain", " a b plain", "  plain", "   plain", "A b plain", "aA b plain", "a. b plain", "a:b c plain", "a/ b plain", "a# b plain", "a\t b plain", "a\tb plain", "\ta b plain",
		"a\x00 b plain", "\x00 b plain", "\u00e9 b plain", "a\u00e9 b plain", "\xff b plain", "a\xff b plain", "\u0430 b plain", "\u212a b plain", "\u0660 b plain", "a\u00a0b plain",
		"abcdefghijklmnopq b plain", strings.Repeat("a", 17) + " b luhn", strings.Repeat("a", 256+16) + " b luhn", strings.Repeat("\u00e9", 8) + " b plain",

		// An end that is neither plain nor luhn.
		"a b ", "a b  ", "a b plain ", "a b luhn ", "a b Plain", "a b PLAIN", "a b Luhn", "a b lUHN", "a b plai", "a b lain", "a b plainx", "a b xplain", "a b luh", "a b uhn", "a b luhnx", "a b xluhn",
		"a b plainluhn", "a b plain,luhn", "a b plain\r", "a b luhn\r", "a b luhn\t", "a b plain\x00", "a b p", "a b l", "a b", "a b\tplain", "a b c", "a b #", "a b plain #", "a b plain # c", "a b pl\u00e0in",
	} {
		wantFault(t, line, 0, api.ErrForm)
		wantFault(t, line+"\n", 0, api.ErrForm)
		wantFault(t, "x y plain\n"+line, 1, api.ErrForm)
		wantFault(t, "\n# c\nx y plain\n\n"+line+"\nz y plain", 4, api.ErrForm)
	}
	// A rule of two lines is none, with byte 10 in it or with another end of lines.
	wantFault(t, "a b\nplain", 0, api.ErrForm)
	wantFault(t, "a \n plain", 0, api.ErrForm)
	wantFault(t, "x y plain\na b\n plain", 1, api.ErrForm)
	wantFault(t, "a b plain\r\nc d plain\r\n", 0, api.ErrForm)
	wantRules(t, "a b plain\rc d plain", without("a", "b plain\rc d"))
}

// Each byte, in a name alone, at its front, in it, and at its end.
func TestBytesOfNames(t *testing.T) {
	const all = "abcdefghijklmnopqrstuvwxyz0123456789-_"
	for b := range 256 {
		s := string([]byte{byte(b)})
		for _, name := range []string{s, s + "a", "a" + s + "b", "ab" + s, strings.Repeat("a", 15) + s, s + strings.Repeat("a", 15)} {
			switch {
			case strings.Contains(all, s):
				wantRules(t, name+" x luhn", with(name, "x"))
			case s == "#" && name[0] == '#':
				wantRules(t, name+" x luhn")
			case s == "\n" && name[0] == '\n':
				wantFault(t, name[:1]+"A x luhn", 1, api.ErrForm)
			case s == " " && name[0] != ' ':
				wantRules(t, name+" x luhn", with(name[:strings.Index(name, s)], name[strings.Index(name, s)+1:]+" x"))
			default:
				wantFault(t, name+" x luhn", 0, api.ErrForm)
			}
		}
	}
}

func TestLengthsOfNames(t *testing.T) {
	for n := range 300 {
		name := strings.Repeat("z", n)
		if 1 <= n && n <= 16 {
			wantRules(t, name+" x plain", without(name, "x"))
			wantRules(t, name+" x  luhn", with(name, "x "))
		} else {
			wantFault(t, name+" x plain", 0, api.ErrForm)
		}
	}
}

// Each byte, as a pattern alone, at its front, in it, and at its end.
func TestBytesOfPatterns(t *testing.T) {
	for b := range 256 {
		s := string([]byte{byte(b)})
		for _, pattern := range []string{s, s + "x", "x" + s + "y", "x" + s, s + s + s} {
			if s == "\n" {
				wantFault(t, "a "+pattern+" plain", 0, api.ErrForm)
			} else {
				wantRules(t, "a "+pattern+" plain\n\nb "+pattern+" luhn", without("a", pattern), with("b", pattern))
			}
		}
	}
}

func TestNamesTwice(t *testing.T) {
	for _, c := range []struct {
		text string
		at   int
	}{
		{"a b plain\na b plain", 1},
		{"a b plain\na c plain", 1},
		{"a b plain\na b luhn", 1},
		{"a b luhn\nb c plain\na d plain\n", 2},
		{"a b luhn\nb c plain\nb d plain\na d plain\n", 2},
		{"\n# a\na b luhn\n\n\na c luhn", 5},
		{"abcdefghijklmnop b plain\nabcdefghijklmnop c plain", 1},
		{"a b plain\na A luhn\nA b plain", 1},
	} {
		wantFault(t, c.text, c.at, api.ErrTwice)
	}
	// Names that are but near to one another, or to a pattern; patterns may be there twice.
	wantRules(t, "a b plain\nb a plain\naa b plain\nab b plain\n-a b plain\na- b plain\n0 b plain\n_ b plain",
		without("a", "b"), without("b", "a"), without("aa", "b"), without("ab", "b"), without("-a", "b"), without("a-", "b"), without("0", "b"), without("_", "b"))
	wantRules(t, "abcdefghijklmnop b plain\nabcdefghijklmno b plain\nabcdefghijklmnoq b plain\nbbcdefghijklmnop b plain",
		without("abcdefghijklmnop", "b"), without("abcdefghijklmno", "b"), without("abcdefghijklmnoq", "b"), without("bbcdefghijklmnop", "b"))
}

// eight are as many rules as there may be.
const eight = "ra x plain\nrb x luhn\nrc x plain\nrd x luhn\nre x plain\nrf x luhn\nrg x plain\nrh x luhn\n"

func allEight() []api.Rule {
	return []api.Rule{
		without("ra", "x"), with("rb", "x"), without("rc", "x"), with("rd", "x"), without("re", "x"), with("rf", "x"), without("rg", "x"), with("rh", "x"),
	}
}

func TestMoreRulesThanThereMayBe(t *testing.T) {
	want := allEight()
	wantRules(t, eight, want...)
	wantRules(t, eight[:len(eight)-1], want...)
	wantRules(t, eight+"\n# ri x plain\n\n", want...)
	wantRules(t, strings.ReplaceAll(eight, "\n", "\n\n#\n"), want...)
	wantRules(t, eight[11:], want[1:]...)

	wantFault(t, eight+"ri x plain", 8, api.ErrLarge)
	wantFault(t, eight+"ri x plain\nrj x plain\n", 8, api.ErrLarge)
	wantFault(t, eight+"\n#\nri x luhn", 10, api.ErrLarge)
	wantFault(t, "#\n\n"+eight+"ri x luhn", 10, api.ErrLarge)
	wantFault(t, strings.ReplaceAll(eight, "\n", "\n\n#\n")+"\nri x luhn", 25, api.ErrLarge)
}

// R1: of one line ErrForm goes first, then ErrTwice; of two lines the one ahead.
func TestWhichFaultGoesFirst(t *testing.T) {
	for _, c := range []struct {
		text string
		at   int
		code api.Code
	}{
		{"ra x plain\nra x", 1, api.ErrForm},
		{"ra x plain\nra x Luhn", 1, api.ErrForm},
		{eight + "ra x", 8, api.ErrForm},
		{eight + "ri x", 8, api.ErrForm},
		{eight + " ", 8, api.ErrForm},
		{eight + "ra x plain", 8, api.ErrTwice},
		{eight + "rh y luhn", 8, api.ErrTwice},
		{eight + "\nra x plain", 9, api.ErrTwice},

		{"ra x plain\nra x plain\nA x plain", 1, api.ErrTwice},
		{"ra x plain\nA x plain\nra x plain", 1, api.ErrForm},
		{"A x plain\nB x plain", 0, api.ErrForm},
		{"A x plain\nA x plain", 0, api.ErrForm},
		{eight + "ri x plain\nA x plain", 8, api.ErrLarge},
		{eight + "ri x plain\nra x plain", 8, api.ErrLarge},
		{eight + "ra x plain\nri x plain", 8, api.ErrTwice},
		{eight + "A x plain\nri x plain", 8, api.ErrForm},
		{eight + "ri x plain\nri x plain", 8, api.ErrLarge},
	} {
		wantFault(t, c.text, c.at, c.code)
	}
}

func TestLengthsOfTexts(t *testing.T) {
	pattern := strings.Repeat("x", 4000-8)
	wantRules(t, "a "+pattern+" plain", without("a", pattern))
	wantRules(t, "a "+pattern[1:]+" plain", without("a", pattern[1:]))
	wantRules(t, "a "+pattern[1:]+" plain\n", without("a", pattern[1:]))
	wantRules(t, strings.Repeat("\n", 4000))
	wantRules(t, strings.Repeat("#\n", 2000))
	wantRules(t, strings.Repeat("\n", 3991)+"a b plain", without("a", "b"))
	wantRules(t, "#"+strings.Repeat("\u00e9", 1999))
	wantFault(t, strings.Repeat("\n", 3999)+" ", 3999, api.ErrForm)
	wantFault(t, strings.Repeat("\n", 3981)+"a b plain\na c luhn", 3982, api.ErrTwice)

	// Beyond that nothing else is looked at.
	for _, text := range []string{
		"a " + pattern + "x plain", "a " + pattern + " plain\n", strings.Repeat("\n", 4001), strings.Repeat("#\n", 2001), "#" + strings.Repeat("x", 4000), "#" + strings.Repeat("\u00e9", 2000),
		strings.Repeat("x", 4001), "\n\nA b plain" + strings.Repeat("\n", 4000), "\na b plain\na b plain" + strings.Repeat("\n", 4000), "\n" + eight + "ri x plain" + strings.Repeat("\n", 4000),
		strings.Repeat("\n", 4000) + "A", strings.Repeat("a b plain\n", 1<<16), strings.Repeat("\n", 1<<16), strings.Repeat("\x00", 1<<20),
	} {
		wantFault(t, text, 0, api.ErrLarge)
	}
}

// Show tells all rules that it is given, also those that no text tells.
func TestShow(t *testing.T) {
	for _, c := range []struct {
		l    []api.Rule
		want string
	}{
		{nil, ""},
		{[]api.Rule{}, ""},
		{[]api.Rule{with("card", `\d{16}`)}, "card \\d{16} luhn\n"},
		{[]api.Rule{without("card", `\d{16}`)}, "card \\d{16} plain\n"},
		{[]api.Rule{with("b", "x"), without("a", "y"), with("c", " z ")}, "b x luhn\na y plain\nc  z  luhn\n"},

		{[]api.Rule{{}}, "  plain\n"},
		{[]api.Rule{{Luhn: true}, {}}, "  luhn\n  plain\n"},
		{[]api.Rule{without("#", ""), with("", "# x"), without("A b", "\n")}, "#  plain\n # x luhn\nA b \n plain\n"},
		{[]api.Rule{with("a", "x"), with("a", "x")}, "a x luhn\na x luhn\n"},
		{[]api.Rule{without("\xff\x00", "\xfe\u00e9")}, "\xff\x00 \xfe\u00e9 plain\n"},
	} {
		if s := Show(c.l); s != c.want {
			t.Errorf("Show(%#v): %q, not %q", c.l, s, c.want)
		}
	}
	// There are no bounds.
	if s := Show(slices.Repeat([]api.Rule{with("a", "x")}, 5000)); s != strings.Repeat("a x luhn\n", 5000) {
		t.Error("5000 rules are shown as", len(s), "bytes")
	}
	long := strings.Repeat("y", 1<<20)
	if s := Show([]api.Rule{without(long, long)}); s != long+" "+long+" plain\n" {
		t.Error("a long rule is shown as", len(s), "bytes")
	}
}

// shares tells whether two texts have a byte of memory in common.
func shares(s, t string) bool {
	if s == "" || t == "" {
		return false
	}
	a, b := uintptr(unsafe.Pointer(unsafe.StringData(s))), uintptr(unsafe.Pointer(unsafe.StringData(t)))
	return a < b+uintptr(len(t)) && b < a+uintptr(len(s))
}

// P14.2, as is the next one.
func TestParseTellsNewMemory(t *testing.T) {
	text := strings.Clone("card \\d{16} luhn\n# no\nk-1 a b  plain\n_ x luhn")
	want := []api.Rule{with("card", `\d{16}`), without("k-1", "a b "), with("_", "x")}
	l, _ := Parse(text)
	for _, r := range l {
		if shares(r.Name, text) || shares(r.Pattern, text) {
			t.Errorf("%#v shares memory with the text", r)
		}
	}
	// What is told stays, whatever is read behind it, and it may be overwritten, with the room behind it.
	wantRules(t, eight, allEight()...)
	wantFault(t, "x y luhn\nz", 1, api.ErrForm)
	if !slices.Equal(l, want) {
		t.Errorf("%#v is %#v behind another text", want, l)
	}
	again, _ := Parse(text)
	for i := range l[:cap(l)] {
		l[:cap(l)][i] = api.Rule{}
	}
	if !slices.Equal(again, want) {
		t.Errorf("%#v is %#v behind what was told ahead of it was overwritten", want, again)
	}
	wantRules(t, text, want...)
}

func TestShowKeepsAndChangesNothing(t *testing.T) {
	room := []api.Rule{with("a", "x"), without("b", "y"), with("c", "z")}
	before := slices.Clone(room)
	s := Show(room[:2])
	if !slices.Equal(room, before) {
		t.Errorf("%#v is %#v behind Show", before, room)
	}
	room[0], room[1] = api.Rule{}, api.Rule{}
	if s != "a x luhn\nb y plain\n" {
		t.Errorf("%q", s)
	}
	name := strings.Clone("a")
	if shares(Show([]api.Rule{with(name, "x")}), name) {
		t.Error("what is shown shares memory with a name")
	}
}

// P14.3, as it is for all texts but those of the next one.
func TestReadShownReadAgain(t *testing.T) {
	for _, c := range []struct{ text, shown string }{
		{"", ""},
		{"#", ""},
		{"\n\n", ""},
		{"a b plain", "a b plain\n"},
		{"#x\na  b  plain\n\nb \x00\xff luhn", "a  b  plain\nb \x00\xff luhn\n"},
		{eight, eight},
		{"a " + strings.Repeat("x", 3991) + " plain", "a " + strings.Repeat("x", 3991) + " plain\n"},
		{"a " + strings.Repeat("x", 3991) + " plain\n", "a " + strings.Repeat("x", 3991) + " plain\n"},
		{"\na " + strings.Repeat("x", 3991) + " plain", "a " + strings.Repeat("x", 3991) + " plain\n"},
	} {
		l, err := Parse(c.text)
		if err != nil {
			t.Fatal(c.text, err)
		}
		if s := Show(l); s != c.shown {
			t.Errorf("%.300q is shown as %.300q", c.text, s)
		}
		wantRules(t, c.shown, l...)
	}
}

// As P14.1 has it: a text of rules' lines alone, as long as may be, without byte 10 at its end, is shown with it, and so is one too long.
func TestWhatIsShownMayBeTooLong(t *testing.T) {
	for _, text := range []string{
		"a " + strings.Repeat("x", 3992) + " plain",
		"a b luhn\nb " + strings.Repeat("x", 3983) + " plain",
	} {
		l, err := Parse(text)
		if len(text) != 4000 || err != nil {
			t.Fatal(len(text), err)
		}
		if s := Show(l); s != text+"\n" {
			t.Errorf("%.300q is shown as %.300q", text, s)
		}
		wantFault(t, Show(l), 0, api.ErrLarge)
	}
}
