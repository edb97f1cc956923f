package moore

import (
	"snaffle/api"
	"snaffle/nfa"
)

// rules are all rules' places, one behind the other, so that one number stands for a rule and a place of it.
type rules struct {
	places []place
	first  []int
	lambda int
}

// place is a place of a rule. Those of follow are counted in the rule alone: they stand so many behind base, where the
// rule's first one stands.
type place struct {
	set        api.Set
	follow     []int
	base       int
	last, luhn bool
}

// words are words under way at one place, bit l of lengths for one of l bytes.
type words struct {
	place   int
	lengths uint64
}

// begun is the length of a word of one byte.
const begun = 1 << 1

func together(l []nfa.Nfa, luhn []bool, lambda int) rules {
	r := rules{lambda: lambda}
	for i, a := range l {
		base := len(r.places)
		for p, s := range a.Sets {
			r.places = append(r.places, place{set: s, follow: a.Follow[p], base: base, last: a.Last[p], luhn: luhn[i]})
		}
		for _, p := range a.First {
			r.first = append(r.first, base+p)
		}
	}
	return r
}

func (r *rules) sets() []api.Set {
	l := make([]api.Set, len(r.places))
	for i := range r.places {
		l[i] = r.places[i].set
	}
	return l
}

// ahead tells where there may be words under way with one byte more, whichever byte it is, as places rise.
func (r *rules) ahead(state []words) []words {
	lengths := make([]uint64, len(r.places))
	for _, p := range r.first {
		lengths[p] = begun
	}
	for _, w := range state {
		p := &r.places[w.place]
		longer := (w.lengths &^ (1 << r.lambda)) << 1
		for _, q := range p.follow {
			lengths[p.base+q] |= longer
		}
	}
	var l []words
	for p, n := range lengths {
		if n != 0 {
			l = append(l, words{place: p, lengths: n})
		}
	}
	return l
}

// by writes over room which of those ahead there are by byte b.
func (r *rules) by(ahead []words, b byte, room []words) []words {
	room = room[:0]
	for _, w := range ahead {
		if has(&r.places[w.place].set, b) {
			room = append(room, w)
		}
	}
	return room
}

func (r *rules) out(state []words) api.Out {
	var o api.Out
	for _, w := range state {
		switch p := &r.places[w.place]; {
		case !p.last:
		case p.luhn:
			o.Luhn |= w.lengths
		default:
			o.Plain |= w.lengths
		}
	}
	return o
}

// has reads the set as api tells it, since the chapter has this layer call layers 4 and 5 alone.
func has(s *api.Set, b byte) bool { return s[b/64]>>(b%64)&1 == 1 }
