package mask

import (
	"snaffle/api"
	"snaffle/lang"
)

// endless is what layer 3 tells of a length where there may be more.
const endless = 1000

// seeker looks for what a rule fits, at one byte and those behind it, in order.
type seeker struct {
	rule        Rule
	least, most int
	any         api.Set
	// stop is where the first byte stands, from the one looked at on, that no word has: words end there at the latest.
	stop int
}

func seek(l []Rule, lambda int) []seeker {
	seekers := make([]seeker, len(l))
	for i, r := range l {
		s := seeker{rule: r, least: max(1, lang.Least(r.N)), most: lambda, any: lang.Any(r.N)}
		if most := lang.Most(r.N); most < endless {
			s.most = min(lambda, most)
		}
		seekers[i] = s
	}
	return seekers
}

// end tells where the longest of what begins at start ends, if it ends behind known; else known.
func (s *seeker) end(x []byte, start, known int) int {
	s.stop = max(s.stop, start)
	for s.stop < len(x) && has(&s.any, x[s.stop]) {
		s.stop++
	}
	for size := min(s.most, s.stop-start); size >= s.least && start+size > known; size-- {
		if Fits(s.rule, x[start:start+size]) {
			return start + size
		}
	}
	return known
}

// has reads the set as api tells it, since the chapter has this layer call layers 3 and 8 alone.
func has(s *api.Set, b byte) bool { return s[b/64]>>(b%64)&1 == 1 }
