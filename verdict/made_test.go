package verdict

import (
	"math"
	"math/rand/v2"
	"reflect"
	"strings"
	"testing"

	"snaffle/api"
	"snaffle/lang"
	"snaffle/mask"
)

// made is a pattern, and what is known of it from how it was made.
type made struct {
	text  string
	code  api.Code // layer 2's, or 0
	node  api.Node
	none  bool // whether nothing at all is a word of it
	most  int  // however much that is
	bytes string
}

// maker throws dice for patterns and texts.
type maker struct{ dice *rand.Rand }

func (m maker) pick(l ...string) string { return l[m.dice.IntN(len(l))] }

func (m maker) single() made {
	s := m.pick("a", "b", "c", "*", "ab", "bc", "a*", "b")
	text := "[" + s + "]"
	if len(s) == 1 && m.dice.IntN(2) == 0 {
		text = s
		if s == "*" {
			text = `\*`
		}
	}
	return made{text: text, node: bytesOf(s), most: 1, bytes: s}
}

// pattern tells one that may stand wherever an atom may.
func (m maker) pattern(deep int) made {
	if deep == 0 {
		return m.single()
	}
	switch m.dice.IntN(5) {
	case 0:
		return m.several(deep, api.Alt, "|")
	case 1, 2:
		return m.several(deep, api.Cat, "")
	case 3:
		return m.times(deep)
	}
	return m.single()
}

// several tells two or three, one behind the other, or one of them.
func (m maker) several(deep, op int, between string) made {
	all := made{node: api.Node{Op: op}, none: op == api.Cat}
	var texts []string
	for range 2 + m.dice.IntN(2) {
		kid := m.pattern(deep - 1)
		texts = append(texts, kid.text)
		all.node.Kids = append(all.node.Kids, kid.node)
		all.bytes += kid.bytes
		if op == api.Cat {
			all.none = all.none && kid.none
			all.most += kid.most
		} else {
			all.none = all.none || kid.none
			all.most = max(all.most, kid.most)
		}
	}
	all.text = "(" + strings.Join(texts, between) + ")"
	return all
}

func (m maker) times(deep int) made {
	kid := m.pattern(deep - 1)
	low, high, text := 1, 1, ""
	switch m.dice.IntN(6) {
	case 0:
		low, high, text = 0, 1, "?"
	case 1:
		low, high, text = 2, 2, "{2}"
	case 2:
		low, high, text = 1, 3, "{1,3}"
	case 3:
		low, high, text = 0, 2, "{0,2}"
	case 4:
		low, high, text = 1, 1, "{1}"
	case 5:
		low, high, text = 1, 32, "{1,32}"
	}
	return made{
		text: "(" + kid.text + text + ")", node: rep(low, high, kid.node), none: kid.none || low == 0,
		// Held to what is beyond all limits, lest it go around.
		most: min(high*kid.most, 1<<20), bytes: kid.bytes,
	}
}

// rule tells a pattern, now and then one that layer 2 refuses.
func (m maker) rule() made {
	p := m.pattern(m.dice.IntN(4))
	switch m.dice.IntN(24) {
	case 0:
		p.text, p.code = p.text+"*", api.ErrStar
	case 1:
		p.text, p.code = p.text+")", api.ErrForm
	case 2:
		p.text, p.code = p.text+"|", api.ErrForm
	case 3:
		p.text, p.code = strings.Repeat("(", 21)+p.text, api.ErrLarge
	}
	if len(p.text) > 200 {
		p.code = api.ErrLarge
	}
	return p
}

// amissByWords tells what the chapter's words say of a rule, or 0.
func amissByWords(p made, c api.Config) api.Code {
	switch {
	case p.code != 0:
		return p.code
	case p.none:
		return api.ErrEmpty
	case p.most > c.Lambda:
		return api.ErrLong
	case strings.IndexByte(p.bytes, c.Mask) >= 0:
		return api.ErrMask
	}
	return 0
}

// config tells one that may be.
func (m maker) config() (api.Config, int) {
	c := api.Config{Lambda: 1 + m.dice.IntN(32), Cap: 1 + m.dice.IntN(1000), Mask: "abc*x"[m.dice.IntN(5)]}
	rate := 1 + m.dice.Float64()*float64(m.dice.IntN(1024))
	c.Rate = math.Float64bits(rate)
	k := int(math.Floor(rate))
	c.Q = k + m.dice.IntN(1024-k+1)
	return c, k
}

// P15.1, P15.3: made rules, held against what is known from how they were made.
func TestMadeRules(t *testing.T) {
	m := maker{rand.New(rand.NewPCG(15, 1))}
	found := map[api.Code]int{}
	for range 30000 {
		c, k := m.config()
		var text string
		var want []mask.Rule
		var first *api.Spot
		for i := range m.dice.IntN(4) {
			p := m.rule()
			// Well within layer 14's limit at all times.
			if len(p.text) > 900 {
				p = m.single()
			}
			kind := m.pick("plain", "luhn")
			text += m.pick("", "\n", "# x* plain\n") + m.pick("a", "b", "c") + string(rune('0'+i)) + " " + p.text + " " + kind + m.pick("\n", "\n\n", "\n#\n")
			if code := amissByWords(p, c); code != 0 && first == nil {
				first = &api.Spot{At: i, Code: code}
			}
			want = append(want, mask.Rule{N: p.node, Luhn: kind == "luhn"})
		}
		if first != nil {
			found[first.Code]++
			wantFault(t, text, c, first.At, first.Code)
		} else {
			found[0]++
			wantRules(t, text, c, k, want...)
			wantShort(t, m, want, c)
		}
		if t.Failed() {
			return
		}
	}
	for code := range found {
		if found[code] < 300 {
			t.Errorf("%v was found %d times", code, found[code])
		}
	}
	if len(found) != 7 {
		t.Errorf("found are %v", found)
	}
}

// wantShort throws words of rules, and wants none that is empty, longer than Lambda, or has the mask.
func wantShort(t *testing.T, m maker, l []mask.Rule, c api.Config) {
	t.Helper()
	for _, r := range l {
		for range 3 {
			w := m.word(r.N)
			if !lang.Has(r.N, w) || len(w) == 0 || len(w) > c.Lambda || strings.IndexByte(string(w), c.Mask) >= 0 {
				t.Errorf("%v has the word %q, by %v", r.N, w, c)
			}
		}
	}
}

// word throws a word of n.
func (m maker) word(n api.Node) []byte {
	var w []byte
	switch n.Op {
	case api.One:
		for {
			b := byte(m.dice.IntN(256))
			if n.Set[b/64]>>(b%64)&1 == 1 {
				return []byte{b}
			}
		}
	case api.Cat:
		for _, kid := range n.Kids {
			w = append(w, m.word(kid)...)
		}
	case api.Alt:
		return m.word(n.Kids[m.dice.IntN(len(n.Kids))])
	case api.Rep:
		for range n.Min + m.dice.IntN(n.Max-n.Min+1) {
			w = append(w, m.word(n.Kids[0])...)
		}
	}
	return w
}

// configuredByWords tells the rate by the chapter's words, or false, if something may not be.
func configuredByWords(c api.Config) (int, bool) {
	x := math.Float64frombits(c.Rate)
	if c.Lambda < 1 || c.Lambda > 32 || math.IsNaN(x) || x < 1 || x > 1024 {
		return 0, false
	}
	k := int(math.Floor(x))
	return k, c.Q >= k && c.Q <= 1024 && c.Cap >= 1 && c.Cap <= 1000
}

// P15.1: all edges of a configuration with one another.
func TestAllEdges(t *testing.T) {
	const text = "a a plain\n"
	found := map[bool]int{}
	for _, lambda := range []int{math.MinInt, -1, 0, 1, 2, 31, 32, 33, math.MaxInt} {
		for _, q := range []int{math.MinInt, -1, 0, 1, 2, 3, 4, 1023, 1024, 1025, math.MaxInt} {
			for _, most := range []int{math.MinInt, -1, 0, 1, 2, 999, 1000, 1001, math.MaxInt} {
				for _, x := range []float64{math.NaN(), math.Inf(-1), math.Inf(1), -3, -1, 0, 0.5, 1, 1.5, 2, 2.9, 3, 3.5, 4, 1022.5, 1023, 1023.9, 1024, 1024.5, 1025, 1e300} {
					c := api.Config{Lambda: lambda, Q: q, Cap: most, Rate: math.Float64bits(x), Mask: '*'}
					k, ok := configuredByWords(c)
					found[ok]++
					if ok {
						wantRules(t, text, c, k, plain(bytesOf("a")))
					} else {
						wantArg(t, text, c)
					}
				}
			}
		}
	}
	if found[true] < 500 || found[false] < 500 {
		t.Errorf("found are %v", found)
	}
}

// R2: a configuration that is told again is the same, and so is what is told of it.
func TestTheSameAgain(t *testing.T) {
	m := maker{rand.New(rand.NewPCG(15, 2))}
	for range 300 {
		c, _ := m.config()
		text := "a " + m.rule().text + " plain\nb " + m.rule().text + " luhn"
		before := c
		l, k, err := Check(text, c)
		again, kAgain, errAgain := Check(text, c)
		if c != before || k != kAgain || !reflect.DeepEqual(l, again) || !reflect.DeepEqual(err, errAgain) {
			t.Fatalf("Check(%q, %v): %v, %d, %v, and again %v, %d, %v", text, c, l, k, err, again, kAgain, errAgain)
		}
	}
}
