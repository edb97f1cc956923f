package moore

import "slices"

// states are all states that are met by now, in this order: of each its words under way, as places rise.
type states struct {
	all    [][]words
	number map[string]int // by key
}

// meet tells the state's number, the next one if it is met for the first time; it keeps a copy.
func (s *states) meet(state []words) int {
	k := key(state)
	i, ok := s.number[string(k)]
	if !ok {
		i = len(s.all)
		s.number[string(k)] = i
		s.all = append(s.all, slices.Clone(state))
	}
	return i
}

// key writes a state as bytes, since a map's keys can't be slices of words.
func key(state []words) []byte {
	k := make([]byte, 0, 16*len(state))
	for _, w := range state {
		k = appendWord(appendWord(k, uint64(w.place)), w.lengths)
	}
	return k
}

func appendWord(b []byte, x uint64) []byte {
	return append(b, byte(x), byte(x>>8), byte(x>>16), byte(x>>24), byte(x>>32), byte(x>>40), byte(x>>48), byte(x>>56))
}
