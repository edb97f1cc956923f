package least

import "snaffle/moore"

// ways are the ways of a machine, gone backwards.
type ways struct {
	classes int
	begin   []int // of each state and class, where those begin among from that lead there; and the end of all
	from    []int
}

func newWays(m moore.Machine) ways {
	n := len(m.Next) * m.Classes
	w := ways{classes: m.Classes, begin: make([]int, n+1), from: make([]int, n)}
	for _, row := range m.Next {
		for c, next := range row {
			w.begin[w.index(next, c)]++
		}
	}
	// These are ends first; each state that is laid ahead of its end moves it.
	for i := range n {
		w.begin[i+1] += w.begin[i]
	}
	for state, row := range m.Next {
		for c, next := range row {
			i := w.index(next, c)
			w.begin[i]--
			w.from[w.begin[i]] = state
		}
	}
	return w
}

func (w ways) index(state, class int) int { return state*w.classes + class }

// to tells the states that lead to this one by the class.
func (w ways) to(state, class int) []int {
	i := w.index(state, class)
	return w.from[w.begin[i]:w.begin[i+1]]
}
