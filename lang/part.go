package lang

import (
	"slices"

	"snaffle/api"
	"snaffle/set"
)

// part is a node, with what is known by now of where its words end in one word w.
type part struct {
	node  *api.Node
	kids  []part
	asked int // of a Rep: how often it was gone through, from all starts at once
	// from is, of a Rep, where its words end, by where they begin. Without it a Rep within a Rep would be gone
	// through anew for each way to part the bytes, and these ways are too many to end.
	from []places
}

// ends tells all places of w where a word of p ends that begins at one of starts.
func (p *part) ends(w []byte, starts places) places {
	switch p.node.Op {
	case api.One:
		return p.behind(w, starts)
	case api.Cat:
		for i := range p.node.Kids {
			if starts.none() {
				break
			}
			starts = p.kid(i).ends(w, starts)
		}
		return starts
	case api.Alt:
		found := nowhere(len(w))
		for i := range p.node.Kids {
			found.join(p.kid(i).ends(w, starts))
		}
		return found
	case api.Rep:
		return p.times(w, starts)
	}
	return nowhere(len(w))
}

// behind tells ends of a One.
func (p *part) behind(w []byte, starts places) places {
	found := nowhere(len(w))
	for at := range starts.all() {
		if at < len(w) && set.Has(p.node.Set, w[at]) {
			found.add(at + 1)
		}
	}
	return found
}

// times tells ends of a Rep.
func (p *part) times(w []byte, starts places) places {
	// All starts at once is the quicker way, but for a Rep that is asked for more often than there are places.
	if p.asked <= len(w) {
		p.asked++
		return p.repeat(w, starts)
	}
	found := nowhere(len(w))
	for at := range starts.all() {
		found.join(p.timesFrom(w, at))
	}
	return found
}

func (p *part) timesFrom(w []byte, at int) places {
	if p.from == nil {
		p.from = make([]places, len(w)+1)
	}
	if p.from[at] == nil {
		p.from[at] = p.repeat(w, only(at, len(w)))
	}
	return p.from[at]
}

// repeat goes Min times from all starts, and then from there up to Max times.
func (p *part) repeat(w []byte, starts places) places {
	now := starts
	for range p.node.Min {
		next := p.kid(0).ends(w, now)
		if slices.Equal(next, now) {
			// So it stays, however many times there are.
			break
		}
		now = next
	}
	found, fresh := slices.Clone(now), now
	for range p.node.Max - p.node.Min {
		// Where it goes from the other places is found by now.
		fresh = p.kid(0).ends(w, fresh).without(found)
		if fresh.none() {
			break
		}
		found.join(fresh)
	}
	return found
}

// kid makes the kids when the first of them is asked for, since most words end ahead of most kids.
func (p *part) kid(i int) *part {
	if p.kids == nil {
		p.kids = make([]part, len(p.node.Kids))
		for k := range p.kids {
			p.kids[k].node = &p.node.Kids[k]
		}
	}
	return &p.kids[i]
}
