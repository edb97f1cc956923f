package ct

import (
	"math/big"
	"math/rand/v2"
	"slices"
	"testing"

	"snaffle/api"
)

// edges are numbers at which something turns.
var edges = []uint64{0, 1, 2, 3, 7, 63, 64, 255, 256, 1<<31 - 1, 1 << 31, 1<<32 - 1, 1 << 32, 1<<32 + 1, 1<<63 - 1, 1 << 63, 1<<63 + 1, most - 1, most}

// paper is a machine as the chapter tells it, of numbers without end.
type paper struct {
	cells []*big.Int
	done  []api.Insn
}

func paperOf(cells int) *paper {
	p := &paper{cells: make([]*big.Int, cells)}
	for i := range p.cells {
		p.cells[i] = new(big.Int)
	}
	return p
}

// there tells whether all cells are that an instruction names.
func (p *paper) there(x api.Insn) bool {
	for _, field := range names[x.Op] {
		at := map[rune]int{'D': x.D, 'A': x.A, 'B': x.B, 'C': x.C}[field]
		if at < 0 || at >= len(p.cells) {
			return false
		}
	}
	return true
}

func (p *paper) do(x api.Insn) (uint64, bool) {
	if x.Op < 0 || x.Op > 11 || !p.there(x) || (x.Op == 6 || x.Op == 7) && x.N > 63 {
		return 0, false
	}
	if x.Op == 11 {
		p.done = append(p.done, x)
		return p.cells[x.A].Uint64(), true
	}
	p.cells[x.D] = p.next(x)
	if x.Op == 10 {
		x.N = 0
	}
	p.done = append(p.done, x)
	return 0, true
}

// next tells what D is to be.
func (p *paper) next(x api.Insn) *big.Int {
	v, end := new(big.Int), new(big.Int).Lsh(big.NewInt(1), 64)
	if x.Op == 0 || x.Op == 10 {
		return v.SetUint64(x.N)
	}
	a := p.cells[x.A]
	switch x.Op {
	case 1:
		if a.Sign() == 0 {
			return p.cells[x.C]
		}
		return p.cells[x.B]
	case 2, 3:
		if order := a.Cmp(p.cells[x.B]); order == 0 && x.Op == 2 || order < 0 && x.Op == 3 {
			v.SetInt64(1)
		}
	case 4:
		v.Mod(v.Add(a, p.cells[x.B]), end)
	case 5:
		if a.Cmp(p.cells[x.B]) < 0 {
			return a
		}
		v.Sub(a, p.cells[x.B])
	case 6:
		v.Mod(v.Lsh(a, uint(x.N)), end)
	case 7:
		v.Rsh(a, uint(x.N))
	case 8:
		v.And(a, p.cells[x.B])
	case 9:
		v.Or(a, p.cells[x.B])
	}
	return v
}

// check holds what Do tells of an instruction, and each cell behind it, against paper.
func check(t *testing.T, m *Machine, p *paper, x api.Insn) {
	t.Helper()
	want, ok := p.do(x)
	v, err := m.Do(x)
	if v != want || ok && err != nil || !ok && err != api.ErrArg {
		t.Fatalf("%+v: %d, %v, not %d, %v", x, v, err, want, ok)
	}
}

func checkCells(t *testing.T, m *Machine, p *paper) {
	t.Helper()
	for at := range p.cells {
		check(t, m, p, api.Insn{Op: api.Emit, A: at})
	}
}

func checkTrace(t *testing.T, m *Machine, p *paper) {
	t.Helper()
	if l := m.Trace(); !slices.Equal(l, p.done) {
		t.Fatalf("the trace is %v, not %v", l, p.done)
	}
	p.done = nil
}

// P10.1, as are all up to TestMadeInstructions: each Op of each two edges, and of each number of bits.
func TestEdges(t *testing.T) {
	m, p := New(4), paperOf(4)
	for _, a := range edges {
		for _, b := range edges {
			for op := range names {
				for at, v := range []uint64{most / 3, a, b, a / 5 * 3} {
					check(t, m, p, api.Insn{Op: api.Const, D: at, N: v})
				}
				check(t, m, p, api.Insn{Op: op, A: 1, B: 2, C: 3, N: b})
				checkCells(t, m, p)
			}
		}
		for n := range uint64(66) {
			for _, op := range []int{api.Shl, api.Shr} {
				check(t, m, p, api.Insn{Op: api.Const, D: 1, N: a})
				check(t, m, p, api.Insn{Op: op, A: 1, N: n})
				checkCells(t, m, p)
			}
		}
		checkTrace(t, m, p)
	}
}

// All instructions of two cells, with one cell too few and one too many in the place of each.
func TestAllSmallInstructions(t *testing.T) {
	m, p := New(2), paperOf(2)
	dice := rand.New(rand.NewPCG(10, 1))
	for op := -1; op <= 12; op++ {
		for at := range 4 * 4 * 4 * 4 {
			for cell := range 2 {
				check(t, m, p, api.Insn{Op: api.Const, D: cell, N: number(dice)})
			}
			check(t, m, p, api.Insn{Op: op, D: at%4 - 1, A: at/4%4 - 1, B: at/16%4 - 1, C: at/64 - 1, N: dice.Uint64N(70)})
			checkCells(t, m, p)
		}
		checkTrace(t, m, p)
	}
}

// number tells one of the edges, or any.
func number(dice *rand.Rand) uint64 {
	if dice.IntN(2) == 0 {
		return edges[dice.IntN(len(edges))]
	}
	return dice.Uint64() >> dice.IntN(64)
}

// made tells an instruction, of which about one in twenty may not be.
func made(dice *rand.Rand, cells int) api.Insn {
	cell := func() int {
		if dice.IntN(60) == 0 {
			return dice.IntN(3)*(cells+1) - 1 - dice.IntN(2)*cells
		}
		return dice.IntN(cells)
	}
	x := api.Insn{Op: dice.IntN(12), D: cell(), A: cell(), B: cell(), C: cell(), N: number(dice)}
	if (x.Op == api.Shl || x.Op == api.Shr) && dice.IntN(20) > 0 {
		x.N %= 64
	}
	if dice.IntN(60) == 0 {
		x.Op = dice.IntN(40) - 20
	}
	return x
}

func TestMadeInstructions(t *testing.T) {
	dice := rand.New(rand.NewPCG(10, 2))
	for range 1000 {
		cells := 1 + dice.IntN(9)
		m, p := New(cells), paperOf(cells)
		for range 100 {
			check(t, m, p, made(dice, cells))
			if dice.IntN(20) == 0 {
				checkTrace(t, m, p)
			}
		}
		checkTrace(t, m, p)
		checkCells(t, m, p)
		checkTrace(t, m, p)
	}
}

// P10.3: two machines that are given the same but for what In brings; which errors there are is the same, too.
func TestTraceHangsOnNoCell(t *testing.T) {
	dice := rand.New(rand.NewPCG(10, 3))
	apart := 0
	for range 1000 {
		cells := 1 + dice.IntN(9)
		a, b := New(cells), New(cells)
		differ := false
		for range 100 {
			x := made(dice, cells)
			if dice.IntN(3) == 0 {
				x.Op = api.In
			}
			y := x
			if y.Op == api.In {
				y.N = number(dice)
			}
			v, err := a.Do(x)
			w, other := b.Do(y)
			if (err == nil) != (other == nil) {
				t.Fatalf("%+v: %v, but %+v: %v", x, err, y, other)
			}
			differ = differ || v != w
			if dice.IntN(50) == 0 && !slices.Equal(a.Trace(), b.Trace()) {
				t.Fatal("the traces are not the same")
			}
		}
		if !slices.Equal(a.Trace(), b.Trace()) {
			t.Fatal("the traces are not the same")
		}
		if differ {
			apart++
		}
	}
	if apart < 500 {
		t.Error("too few of those that were made told of what came in:", apart)
	}
}
