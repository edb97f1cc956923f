package scan

import "snaffle/api"

// call is a call that has instructions done.
type call byte

const (
	push call = iota
	drain
	release
)

// plan is how many bytes stand where. No byte is known here, so what is done next can't hang on one.
type plan struct {
	places
	ring    int // how many bytes stand in the ring: held back, or waiting once it was drained
	first   int // where in the queue the first of those begins that wait there
	queued  int // how many wait in the queue
	drained bool
}

// count tells how many bytes are held back, and wait.
func (p *plan) count() (int, int) {
	if p.drained {
		return 0, p.queued + p.ring
	}
	return p.ring, p.queued
}

// full tells whether there is no room for one more byte.
func (p *plan) full() bool { return p.ring == p.lambda && p.queued == p.q }

// take goes on by a call, and tells its instructions, but for the work on a byte.
func (p *plan) take(c call) []api.Insn {
	switch c {
	case push:
		return p.push()
	case drain:
		return p.drain()
	}
	return []api.Insn{{Op: api.Emit, A: p.release()}}
}

// push makes room for a byte in the ring.
func (p *plan) push() []api.Insn {
	if p.ring < p.lambda {
		p.ring++
		return nil
	}
	p.queued++
	return []api.Insn{p.wait(p.queue+(p.first+p.queued-1)%p.q, 0)}
}

// drain lets the bytes of the ring wait where they stand, since the queue may have no room for them.
func (p *plan) drain() []api.Insn {
	p.drained = true
	var l []api.Insn
	for i := p.lambda - p.ring; i < p.lambda; i++ {
		l = append(l, p.wait(p.bytes+i, i))
	}
	return l
}

// release tells the cell of the first byte that waits, which waits no more.
func (p *plan) release() int {
	if p.queued == 0 {
		p.ring--
		return p.bytes + p.lambda - p.ring - 1
	}
	cell := p.queue + p.first
	p.first = (p.first + 1) % p.q
	p.queued--
	return cell
}

// wait tells the instruction by which a byte of the ring comes to wait.
func (p *plan) wait(cell, i int) api.Insn {
	return api.Insn{Op: api.Sel, D: cell, A: p.covered + i, B: theMask, C: p.bytes + i}
}
