package least

import "slices"

// parts are groups of states, none of which are alike to states of another group.
type parts struct {
	states []int // group by group, those that are marked ahead
	at     []int // of each state, where it stands among states
	group  []int // of each state
	begin  []int // of each group, where its states begin
	end    []int // and end
	marked []int // and how many of them are marked
}

// newParts lays out n groups, none of them without states.
func newParts(group []int, n int) *parts {
	p := &parts{states: make([]int, len(group)), at: make([]int, len(group)), group: group, marked: make([]int, n)}
	size := make([]int, n)
	for _, g := range group {
		size[g]++
	}
	begin := 0
	for _, s := range size {
		p.begin, p.end = append(p.begin, begin), append(p.end, begin)
		begin += s
	}
	for state, g := range group {
		p.put(state, p.end[g])
		p.end[g]++
	}
	return p
}

func (p *parts) groups() int { return len(p.begin) }

func (p *parts) put(state, at int) {
	p.states[at] = state
	p.at[state] = at
}

// partBy parts all groups of which some states, but not all, lead to group g by a class.
func (p *parts) partBy(g int, back ways) {
	// The group may part itself on the way.
	goals := slices.Clone(p.states[p.begin[g]:p.end[g]])
	var some []int
	for c := range back.classes {
		some = some[:0]
		for _, goal := range goals {
			for _, state := range back.to(goal, c) {
				some = p.mark(state, some)
			}
		}
		for _, group := range some {
			p.part(group)
		}
	}
}

// mark marks a state that isn't marked, and adds its group to those that have such ones.
func (p *parts) mark(state int, some []int) []int {
	g := p.group[state]
	if p.marked[g] == 0 {
		some = append(some, g)
	}
	here, there := p.at[state], p.begin[g]+p.marked[g]
	p.put(p.states[there], here)
	p.put(state, there)
	p.marked[g]++
	return some
}

// part makes the smaller part of group g, the marked states or the others, a group of its own, unless there are no others.
func (p *parts) part(g int) {
	begin, middle, end := p.begin[g], p.begin[g]+p.marked[g], p.end[g]
	p.marked[g] = 0
	if middle == end {
		return
	}
	if middle-begin <= end-middle {
		p.begin[g] = middle
		end = middle
	} else {
		p.end[g] = middle
		begin = middle
	}
	for _, state := range p.states[begin:end] {
		p.group[state] = p.groups()
	}
	p.begin, p.end, p.marked = append(p.begin, begin), append(p.end, end), append(p.marked, 0)
}
