package scan

import (
	"slices"

	"snaffle/api"
	"snaffle/macro"
)

// work tells what is done with each byte. Its first instruction is the byte's In.
func (p places) work() []api.Insn {
	return slices.Concat(p.step(), p.shift(), p.check(), p.cover())
}

// step takes a byte in, and goes to the next state by it.
func (p places) step() []api.Insn {
	return slices.Concat(
		[]api.Insn{{Op: api.In, D: in}},
		macro.Look(class, in, p.classOf, 256, 1, scratch),
		[]api.Insn{{Op: api.Add, D: key, A: state, B: class}},
		macro.Look(state, key, p.next, p.states*p.classes, 1, scratch),
		macro.Look(outPlain, state, p.plains, p.states, p.classes, scratch),
		macro.Look(outLuhn, state, p.luhns, p.states, p.classes, scratch),
	)
}

// shift moves the ring on, and sets the byte at its end.
func (p places) shift() []api.Insn {
	var l []api.Insn
	for _, base := range []int{p.bytes, p.covered, p.digits} {
		for i := range p.lambda - 1 {
			l = append(l, macro.Copy(base+i, base+i+1)...)
		}
	}
	last := p.lambda - 1
	l = append(l, macro.Copy(p.bytes+last, in)...)
	l = append(l, macro.Copy(p.covered+last, zero)...)
	return append(l,
		// Going around, all bytes ahead of 0 are greater than those that are digits.
		api.Insn{Op: api.Add, D: digit, A: in, B: less0},
		api.Insn{Op: api.Lt, D: scratch, A: digit, B: ten},
		api.Insn{Op: api.Add, D: digit, A: digit, B: one},
		api.Insn{Op: api.Sel, D: p.digits + last, A: scratch, B: digit, C: zero},
	)
}

// check tells the lengths of the last bytes that are Ok, in the bits of checked.
func (p places) check() []api.Insn {
	l := []api.Insn{put(sum, 0), put(count, 0), put(checked, 0)}
	for n := 1; n <= p.lambda; n++ {
		l = append(l, add(p.digits+p.lambda-n)...)
		l = append(l,
			api.Insn{Op: api.Lt, D: scratch, A: one, B: count},
			api.Insn{Op: api.Eq, D: check, A: sum, B: zero},
			api.Insn{Op: api.And, D: check, A: check, B: scratch},
			api.Insn{Op: api.Shl, D: check, A: check, N: uint64(n)},
			api.Insn{Op: api.Or, D: checked, A: checked, B: check},
		)
	}
	return l
}

// add adds a byte's digit to the sum and to the count; a byte that is none adds 0 to both.
func add(cell int) []api.Insn {
	return []api.Insn{
		{Op: api.CSub, D: once, A: cell, B: one},
		{Op: api.Add, D: twice, A: once, B: once},
		{Op: api.CSub, D: twice, A: twice, B: nine},
		{Op: api.And, D: second, A: count, B: one},
		{Op: api.Sel, D: part, A: second, B: twice, C: once},
		{Op: api.Add, D: sum, A: sum, B: part},
		{Op: api.CSub, D: sum, A: sum, B: ten},
		{Op: api.Lt, D: scratch, A: zero, B: cell},
		{Op: api.Add, D: count, A: count, B: scratch},
	}
}

// cover marks the bytes of the ring that stand in words which end at the last one.
func (p places) cover() []api.Insn {
	l := []api.Insn{
		{Op: api.And, D: outLuhn, A: outLuhn, B: checked},
		{Op: api.Or, D: outPlain, A: outPlain, B: outLuhn},
	}
	for n := 1; n <= p.lambda; n++ {
		cell := p.covered + p.lambda - n
		l = append(l,
			// What is left are the words of n bytes and more: all of them have the byte.
			api.Insn{Op: api.Shr, D: scratch, A: outPlain, N: uint64(n)},
			api.Insn{Op: api.Or, D: cell, A: cell, B: scratch},
		)
	}
	return l
}
