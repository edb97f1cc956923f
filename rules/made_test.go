package rules

import (
	"math/rand/v2"
	"regexp"
	"slices"
	"strings"
	"testing"

	"snaffle/api"
)

// ruleLine is a rule's line by the chapter's words: neither a name nor plain nor luhn has a space, so those around the pattern are the first and the last.
var ruleLine = regexp.MustCompile(`(?s)^([a-z0-9_-]{1,16}) (.+) (plain|luhn)$`)

// parseByWords reads rules by the chapter's words: what of a line applies first is told, by which names were there.
func parseByWords(text string) ([]api.Rule, *api.Spot) {
	if len(text) > 4000 {
		return nil, &api.Spot{Code: api.ErrLarge}
	}
	names := map[string]bool{}
	var l []api.Rule
	at := 0
	for more := true; more; at++ {
		var line string
		line, text, more = strings.Cut(text, "\n")
		if strings.HasPrefix(line, "#") || len(line) == 0 {
			continue
		}
		m := ruleLine.FindStringSubmatch(line)
		switch {
		case m == nil:
			return nil, &api.Spot{At: at, Code: api.ErrForm}
		case names[m[1]]:
			return nil, &api.Spot{At: at, Code: api.ErrTwice}
		case len(names) > 7:
			return nil, &api.Spot{At: at, Code: api.ErrLarge}
		}
		names[m[1]] = true
		l = append(l, api.Rule{Name: m[1], Pattern: m[2], Luhn: m[3] == "luhn"})
	}
	return l, nil
}

// wantByWords holds Parse against the chapter's words, and what was read, shown and read again against what was read; it tells the error's code.
func wantByWords(t *testing.T, text string) api.Code {
	t.Helper()
	want, spot := parseByWords(text)
	if spot != nil {
		wantFault(t, text, spot.At, spot.Code)
		return spot.Code
	}
	wantRules(t, text, want...)
	shown := Show(want)
	if len(shown) <= 4000 {
		wantRules(t, shown, want...)
	}
	lines := ""
	for line := range strings.SplitSeq(text, "\n") {
		if line != "" && line[0] != '#' {
			lines += line + "\n"
		}
	}
	if shown != lines {
		t.Errorf("%.300q is shown as %.300q", text, shown)
	}
	return 0
}

// P14.1 and P14.3, as are all below: all texts of a few pieces.
func TestAllShortTexts(t *testing.T) {
	pieces := []string{"a", " ", "\n", "#", "plain", " luhn", "A", "a b plain"}
	found := map[api.Code]int{}
	var all func(text string, more int)
	all = func(text string, more int) {
		found[wantByWords(t, text)]++
		if more == 0 || t.Failed() {
			return
		}
		for _, p := range pieces {
			all(text+p, more-1)
		}
	}
	all("", 6)
	for _, code := range []api.Code{0, api.ErrForm, api.ErrTwice} {
		if found[code] < 100 {
			t.Errorf("%d texts told %v", found[code], code)
		}
	}
}

// maker throws dice for texts of rules.
type maker struct{ dice *rand.Rand }

func (m maker) of(letters string, n int) string {
	b := make([]byte, n)
	for i := range b {
		b[i] = letters[m.dice.IntN(len(letters))]
	}
	return string(b)
}

func (m maker) name() string {
	const letters = "abcdefghijklmnopqrstuvwxyz0123456789-_"
	if m.dice.IntN(3) == 0 {
		return m.of("ab", 1+m.dice.IntN(2))
	}
	return m.of(letters, 1+m.dice.IntN(16))
}

func (m maker) pattern() string {
	if m.dice.IntN(2) == 0 {
		return m.of("x  #\\d{1}\r\tplain", 1+m.dice.IntN(12))
	}
	b := make([]byte, 1+m.dice.IntN(30))
	for i := range b {
		b[i] = byte(m.dice.IntN(256))
		if b[i] == '\n' {
			b[i] = ' '
		}
	}
	return string(b)
}

func (m maker) line() string {
	switch m.dice.IntN(6) {
	case 0:
		return ""
	case 1:
		return "#" + m.pattern()
	}
	return m.name() + " " + m.pattern() + " " + []string{"plain", "luhn"}[m.dice.IntN(2)]
}

// spoiled changes a byte, takes one away, or puts one in.
func (m maker) spoiled(text string) string {
	at := m.dice.IntN(len(text) + 1)
	b := m.of(" \n#aZ-.p\r\x00\xff", 1)
	switch m.dice.IntN(3) {
	case 0:
		return text[:at] + b + text[at:]
	case 1:
		return text[:at] + b + text[min(at+1, len(text)):]
	}
	return text[:at] + text[min(at+1, len(text)):]
}

func TestMadeTexts(t *testing.T) {
	m := maker{rand.New(rand.NewPCG(14, 1))}
	found := map[api.Code]int{}
	for range 30000 {
		lines := make([]string, m.dice.IntN(16))
		for i := range lines {
			lines[i] = m.line()
		}
		text := strings.Join(lines, "\n")
		found[wantByWords(t, text)]++
		for range 3 {
			text = m.spoiled(text)
			found[wantByWords(t, text)]++
		}
		if t.Failed() {
			return
		}
	}
	for _, code := range []api.Code{0, api.ErrForm, api.ErrTwice, api.ErrLarge} {
		if found[code] < 100 {
			t.Errorf("%d texts told %v", found[code], code)
		}
	}
}

// Made texts about as long as may be.
func TestMadeTextsAtTheLimit(t *testing.T) {
	m := maker{rand.New(rand.NewPCG(14, 2))}
	found := map[api.Code]int{}
	for range 2000 {
		n := 3990 + m.dice.IntN(20)
		lines := []string{m.of("abc", 3) + " x luhn", m.line(), m.of("def", 3) + " y plain"}
		for range m.dice.IntN(6) {
			lines = slices.Insert(lines, m.dice.IntN(3), "#"+m.of("x ", m.dice.IntN(500)))
		}
		text := strings.Join(lines, "\n")
		text = text[:len(text)-6] + m.of("z y", n-len(text)) + " plain"
		if m.dice.IntN(3) == 0 {
			text += "\n"
		}
		found[wantByWords(t, text)]++
		found[wantByWords(t, m.spoiled(text))]++
		if t.Failed() {
			return
		}
	}
	for _, code := range []api.Code{0, api.ErrForm, api.ErrLarge} {
		if found[code] < 30 {
			t.Errorf("%d texts told %v", found[code], code)
		}
	}
}
