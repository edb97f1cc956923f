package nfa

import "snaffle/api"

// layout is a pattern laid out up to some place. Each place comes to follow another one just once, where the smallest
// Cat that holds both is joined, and nearer ones ahead of farther ones: so each list of follow rises.
type layout struct {
	sets   []api.Set
	follow [][]int
}

// stretch is a run of places; first and last rise.
type stretch struct {
	first, last []int
	empty       bool
}

// lay lays n out behind all that is laid out by now.
func (l *layout) lay(n *api.Node) stretch {
	switch n.Op {
	case api.One:
		return l.one(n.Set)
	case api.Cat:
		return l.cat(n.Kids)
	case api.Alt:
		return l.alt(n.Kids)
	case api.Rep:
		return l.rep(n)
	}
	return stretch{}
}

func (l *layout) one(s api.Set) stretch {
	p := len(l.sets)
	l.sets, l.follow = append(l.sets, s), append(l.follow, nil)
	return stretch{first: []int{p}, last: []int{p}}
}

func (l *layout) cat(kids []api.Node) stretch {
	whole := nothing()
	for i := range kids {
		whole = l.join(whole, l.lay(&kids[i]))
	}
	return whole
}

func (l *layout) alt(kids []api.Node) stretch {
	var whole stretch
	for i := range kids {
		kid := l.lay(&kids[i])
		whole.first = append(whole.first, kid.first...)
		whole.last = append(whole.last, kid.last...)
		whole.empty = whole.empty || kid.empty
	}
	return whole
}

func (l *layout) rep(n *api.Node) stretch {
	whole := nothing()
	for range n.Min {
		whole = l.join(whole, l.lay(&n.Kids[0]))
	}
	return l.join(whole, l.within(&n.Kids[0], n.Max-n.Min))
}

// within lays out so many copies of kid that may be left out, each one with all behind it.
func (l *layout) within(kid *api.Node, deep int) stretch {
	if deep <= 0 {
		return nothing()
	}
	copied := l.lay(kid)
	whole := l.join(copied, l.within(kid, deep-1))
	whole.empty = true
	return whole
}

// join puts y behind x. Both are used up: their lists may grow on in the new one.
func (l *layout) join(x, y stretch) stretch {
	for _, p := range x.last {
		l.follow[p] = append(l.follow[p], y.first...)
	}
	whole := stretch{first: x.first, last: y.last, empty: x.empty && y.empty}
	if x.empty {
		whole.first = append(x.first, y.first...)
	}
	if y.empty {
		whole.last = append(x.last, y.last...)
	}
	return whole
}

func nothing() stretch { return stretch{empty: true} }

// count tells how many places n has; of more than MaxPos, some number above it.
func count(n *api.Node) int {
	switch n.Op {
	case api.One:
		return 1
	case api.Rep:
		// Held to one more than there may be, lest it grow beyond all numbers.
		return min(n.Max*count(&n.Kids[0]), api.MaxPos+1)
	}
	sum := 0
	for i := range n.Kids {
		if sum > api.MaxPos {
			break
		}
		sum += count(&n.Kids[i])
	}
	return sum
}
