package rx

import (
	"math/rand/v2"
	"strconv"
	"strings"
	"testing"

	"snaffle/api"
)

// maker throws dice for a node, and writes it while it makes it.
type maker struct{ dice *rand.Rand }

// pattern tells a text of a pattern, and the pattern, with at most so many brackets open at once.
func (m maker) pattern(deep int) (string, api.Node) {
	return m.joined(api.Alt, "|", func() (string, api.Node) {
		return m.joined(api.Cat, "", func() (string, api.Node) { return m.piece(deep) })
	})
}

func (m maker) joined(op int, between string, each func() (string, api.Node)) (string, api.Node) {
	text, node := each()
	kids := []api.Node{node}
	for m.dice.IntN(3) == 0 {
		more, kid := each()
		text += between + more
		kids = append(kids, kid)
	}
	if len(kids) == 1 {
		return text, node
	}
	return text, of(op, kids...)
}

func (m maker) piece(deep int) (string, api.Node) {
	text, node := m.atom(deep)
	for m.dice.IntN(4) == 0 {
		high := 1 + m.dice.IntN(32)
		low := m.dice.IntN(high + 1)
		switch {
		case m.dice.IntN(3) == 0:
			text, node = text+"?", rep(0, 1, node)
		case low == high:
			text, node = text+"{"+strconv.Itoa(low)+"}", rep(low, low, node)
		default:
			text, node = text+"{"+strconv.Itoa(low)+","+strconv.Itoa(high)+"}", rep(low, high, node)
		}
	}
	return text, node
}

func (m maker) atom(deep int) (string, api.Node) {
	if deep > 0 && m.dice.IntN(3) == 0 {
		text, node := m.pattern(deep - 1)
		return "(" + text + ")", node
	}
	b := m.dice.IntN(256)
	switch m.dice.IntN(6) {
	case 0:
		return "\\w", oneOf(wordBytes)
	case 1:
		return ".", noneOf("\n")
	case 2:
		return m.items()
	}
	return inItems(b), oneOf(string([]byte{byte(b)}))
}

func (m maker) items() (string, api.Node) {
	text, in := "", api.Set{}
	for text == "" || m.dice.IntN(2) == 0 {
		low, high := m.dice.IntN(256), m.dice.IntN(256)
		switch {
		case m.dice.IntN(5) == 0:
			text, in = text+"\\d", union(in, oneOf(digitBytes).Set)
		case low <= high && m.dice.IntN(2) == 0:
			text += inItems(low) + "-" + inItems(high)
			in = union(in, where(func(b int) bool { return low <= b && b <= high }).Set)
		default:
			text, in = text+inItems(low), union(in, oneOf(string([]byte{byte(low)})).Set)
		}
	}
	if m.dice.IntN(3) == 0 {
		text = "^" + text
		for i := range in {
			in[i] = ^in[i]
		}
	}
	return "[" + text + "]", api.Node{Op: api.One, Set: in}
}

// P2.1: what is written is what is read.
func TestMadePatterns(t *testing.T) {
	m := maker{rand.New(rand.NewPCG(7, 3))}
	for range 20000 {
		text, want := m.pattern(m.dice.IntN(20))
		if len(text) <= api.MaxText {
			wantNode(t, text, want)
		} else {
			wantSpot(t, text, 0, api.ErrLarge)
		}
	}
}

// P2.3.
func TestBracketsLeaveNothingBehind(t *testing.T) {
	m := maker{rand.New(rand.NewPCG(1, 9))}
	for range 5000 {
		p, one := m.pattern(5)
		q, two := m.pattern(5)
		if len(p)+len(q) > api.MaxText-5 {
			continue
		}
		wantNode(t, "("+p+")", one)
		wantNode(t, strings.Repeat("(", 2)+p+strings.Repeat(")", 2), one)
		wantNode(t, "("+p+")|("+q+")", of(api.Alt, one, two))
	}
	wantNode(t, "(a|b)|(c|d)", of(api.Alt, of(api.Alt, oneOf("a"), oneOf("b")), of(api.Alt, oneOf("c"), oneOf("d"))))
	wantNode(t, "(ab)|(c)", of(api.Alt, of(api.Cat, oneOf("a"), oneOf("b")), oneOf("c")))
}
