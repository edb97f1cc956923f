package scan

import (
	"math"

	"snaffle/api"
	"snaffle/moore"
)

// The cells that are there once, of the first 64.
const (
	zero  = iota
	one   // 1
	nine  // 9
	ten   // 10
	less0 // less 48, which stands for 0
	theMask
	state // times the number of classes, so that with a class it is a key of next
	in
	class
	key
	outPlain
	outLuhn
	digit
	once
	twice
	second
	part
	sum
	count
	check
	checked
	scratch
	single = 64
)

// places tells where there are more cells of a kind.
type places struct {
	lambda, q       int
	states, classes int

	classOf int // of each byte its class
	next    int // of each state, and each class, the next state
	plains  int // of each state Plain
	luhns   int // of each state Luhn
	bytes   int // the ring: lambda bytes, the last one at its end
	covered int // of each byte of the ring whether it is to be hidden: not 0
	digits  int // of each byte of the ring its digit, and 1 more; 0, if it is none
	queue   int
	all     int // how many cells there are
}

func laid(m moore.Machine, lambda, q int) places {
	p := places{lambda: lambda, q: q, states: len(m.Next), classes: m.Classes}
	p.classOf = single
	p.next = p.classOf + len(m.Class)
	p.plains = p.next + p.states*p.classes
	p.luhns = p.plains + p.states
	p.bytes = p.luhns + p.states
	p.covered = p.bytes + lambda
	p.digits = p.covered + lambda
	p.queue = p.digits + lambda
	p.all = p.queue + q
	return p
}

// load tells the instructions that lay out what stays as it is.
func (p places) load(m moore.Machine, hide byte) []api.Insn {
	l := []api.Insn{
		put(one, 1), put(nine, 9), put(ten, 10), put(less0, math.MaxUint64-'0'+1), put(theMask, uint64(hide)),
	}
	for b, c := range m.Class {
		l = append(l, put(p.classOf+b, uint64(c)))
	}
	for i, row := range m.Next {
		for c, next := range row {
			l = append(l, put(p.next+i*p.classes+c, uint64(next*p.classes)))
		}
	}
	lengths := uint64(1)<<(p.lambda+1) - 1
	for i, o := range m.Out {
		l = append(l, put(p.plains+i, o.Plain&lengths), put(p.luhns+i, o.Luhn&lengths))
	}
	return l
}

func put(cell int, n uint64) api.Insn { return api.Insn{Op: api.Const, D: cell, N: n} }
