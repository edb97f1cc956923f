package rx

import (
	"strconv"
	"strings"
	"testing"

	"snaffle/api"
)

// all holds all patterns of some length over a few bytes, made from the chapter's grammar, not read.
type all struct {
	patterns, parts, pieces, atoms [][]made
	items                          [][]madeItems
}

type made struct {
	text string
	node api.Node
	list []api.Node // of a part its pieces, of a pattern its parts
}

type madeItems struct {
	text   string
	set    api.Set
	hyphen bool // it begins with a - without \
	ofByte bool // its first item is a byte alone, so that a - behind it would make a range
}

const (
	plain     = "ab1,d-"
	itemPlain = plain + "[(){}|?*^."
	alphabet  = "ab1,d-[](){}|?*^.\\"
	longest   = 5
)

// kinds are the texts that stand for a set, over the few bytes.
func kinds() map[string]string { return map[string]string{"\\d": digitBytes} }

func quotes() map[string]byte {
	m := map[string]byte{}
	for _, b := range []byte(alphabet) {
		if strings.IndexByte(quotedOnes, b) >= 0 {
			m["\\"+string(b)] = b
		}
	}
	return m
}

func firstItems() []madeItems {
	bytesOf := quotes()
	for _, b := range []byte(itemPlain) {
		bytesOf[string(b)] = b
	}
	var l []madeItems
	for text, set := range kinds() {
		l = append(l, madeItems{text, oneOf(set).Set, false, false})
	}
	for text, b := range bytesOf {
		l = append(l, madeItems{text, oneOf(string([]byte{b})).Set, text == "-", true})
		for to, high := range bytesOf {
			if b <= high {
				in := where(func(x int) bool { return int(b) <= x && x <= int(high) }).Set
				l = append(l, madeItems{text + "-" + to, in, text == "-", false})
			}
		}
	}
	return l
}

func union(s, t api.Set) api.Set {
	for i := range s {
		s[i] |= t[i]
	}
	return s
}

func makeItems(n int, shorter [][]madeItems) []madeItems {
	var l []madeItems
	for _, first := range firstItems() {
		k := len(first.text)
		if k == n {
			l = append(l, first)
		}
		if k >= n {
			continue
		}
		for _, rest := range shorter[n-k] {
			if !first.ofByte || !rest.hyphen {
				l = append(l, madeItems{first.text + rest.text, union(first.set, rest.set), first.hyphen, first.ofByte})
			}
		}
	}
	return l
}

func (a *all) makeAtoms(n int) []made {
	var l []made
	add := func(text string, s api.Set) {
		if len(text) == n {
			l = append(l, made{text: text, node: api.Node{Op: api.One, Set: s}})
		}
	}
	for _, b := range []byte(plain) {
		add(string(b), oneOf(string(b)).Set)
	}
	add(".", noneOf("\n").Set)
	for text, set := range kinds() {
		add(text, oneOf(set).Set)
	}
	for text, b := range quotes() {
		add(text, oneOf(string([]byte{b})).Set)
	}
	if n > 2 {
		for _, p := range a.patterns[n-2] {
			l = append(l, made{text: "(" + p.text + ")", node: p.node})
		}
		for _, p := range a.items[n-2] {
			// What begins with ^ is read as the other form.
			if p.text[0] != '^' {
				add("["+p.text+"]", p.set)
			}
		}
	}
	if n > 3 {
		for _, p := range a.items[n-3] {
			out := p.set
			for i := range out {
				out[i] = ^out[i]
			}
			add("[^"+p.text+"]", out)
		}
	}
	return l
}

// repetitions are those over the few bytes that fit into the longest text.
func repetitions() map[string][2]int {
	m := map[string][2]int{"?": {0, 1}}
	for _, s := range []string{"1", "11"} {
		n, _ := strconv.Atoi(s)
		m["{"+s+"}"] = [2]int{n, n}
	}
	m["{1,1}"] = [2]int{1, 1}
	return m
}

func (a *all) makePieces(n int) []made {
	l := append([]made{}, a.atoms[n]...)
	for text, r := range repetitions() {
		if len(text) < n {
			for _, p := range a.pieces[n-len(text)] {
				l = append(l, made{text: p.text + text, node: rep(r[0], r[1], p.node)})
			}
		}
	}
	return l
}

// makeJoined lays one or more of each with between between.
func makeJoined(n, op int, between string, each, joined [][]made) []made {
	var l []made
	for _, p := range each[n] {
		l = append(l, made{p.text, p.node, []api.Node{p.node}})
	}
	for k := 1; k+len(between) < n; k++ {
		for _, first := range each[k] {
			for _, rest := range joined[n-k-len(between)] {
				list := append([]api.Node{first.node}, rest.list...)
				l = append(l, made{first.text + between + rest.text, of(op, list...), list})
			}
		}
	}
	return l
}

func makeAll() *all {
	a := &all{
		make([][]made, longest+1), make([][]made, longest+1), make([][]made, longest+1), make([][]made, longest+1),
		make([][]madeItems, longest+1),
	}
	for n := 1; n <= longest; n++ {
		if n <= longest-2 {
			a.items[n] = makeItems(n, a.items)
		}
		a.atoms[n] = a.makeAtoms(n)
		a.pieces[n] = a.makePieces(n)
		a.parts[n] = makeJoined(n, api.Cat, "", a.pieces, a.parts)
		a.patterns[n] = makeJoined(n, api.Alt, "|", a.parts, a.patterns)
	}
	return a
}

// P2.1: of all short texts those are patterns that the grammar makes, and what they are; each other one has
// its first fault at a place up to which it may yet become one, and what stands behind that place is of no weight.
func TestAllShortTexts(t *testing.T) {
	want := map[string]api.Node{}
	for _, l := range makeAll().patterns {
		for _, p := range l {
			if n, twice := want[p.text]; twice && !same(n, p.node) {
				t.Fatalf("the grammar makes two of %q", p.text)
			}
			want[p.text] = p.node
		}
	}
	found := 0
	text := make([]byte, 0, longest)
	var try func()
	try = func() {
		n, pattern := want[string(text)]
		if pattern {
			found++
			wantNode(t, string(text), n)
		}
		at := len(text)
		if !pattern {
			at = checkFault(t, string(text))
		}
		if at < len(text) || len(text) == longest || t.Failed() {
			return
		}
		for _, b := range []byte(alphabet) {
			text = append(text, b)
			try()
			text = text[:len(text)-1]
		}
	}
	try()
	if found != len(want) && !t.Failed() {
		t.Errorf("%d of %d patterns were told a fault too early", len(want)-found, len(want))
	}
}

// checkFault tells where the fault is: since all that is ahead was tried, it is at the last byte or at the end.
func checkFault(t *testing.T, text string) int {
	got, err := Parse(text)
	spot, ok := err.(*api.Spot)
	if !ok || !same(got, api.Node{}) {
		t.Errorf("Parse(%q) is %v, %v", text, got, err)
		return 0
	}
	late := spot.At == len(text) && spot.Code == api.ErrForm
	last := spot.At == len(text)-1 && (spot.Code == api.ErrForm || spot.Code == api.ErrStar)
	if !late && !last {
		t.Errorf("Parse(%q) is %v", text, err)
	}
	if last {
		for _, behind := range []string{"a", "]", ")", "}", "*", "\\q", "(((((((((((((((((((((("} {
			wantSpot(t, text+behind, spot.At, spot.Code)
		}
	}
	return spot.At
}
