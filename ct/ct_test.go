package ct

import (
	"math"
	"slices"
	"testing"

	"snaffle/api"
)

// P10.1, as are all up to TestTrace.
func TestNew(t *testing.T) {
	for _, c := range []struct {
		cells int
		ok    bool
	}{
		{math.MinInt, false}, {-200000, false}, {-1, false}, {0, false}, {1, true}, {2, true}, {3, true}, {1000, true},
		{199999, true}, {200000, true}, {200001, false}, {1 << 31, false}, {1 << 32, false}, {1<<32 + 1, false}, {math.MaxInt, false},
	} {
		if m := New(c.cells); (m != nil) != c.ok {
			t.Errorf("%d cells: %v", c.cells, m != nil)
		}
	}
}

// All cells are there, each one is 0 and its own, and there is none beside them.
func TestCells(t *testing.T) {
	for _, cells := range []int{1, 2, 3, 64, 65, 256, 1000, 65536, 65537, api.MaxCells} {
		m := New(cells)
		for at := range cells {
			wantTold(t, m, at, 0)
		}
		for at := range cells {
			wantDone(t, m, api.Insn{Op: api.Const, D: at, N: uint64(at)*7 + 1})
		}
		for at := range cells {
			wantTold(t, m, at, uint64(at)*7+1)
		}
		for _, at := range []int{-1, -cells, cells, cells + 1, 1 << 32, -1 << 32, math.MinInt, math.MaxInt} {
			wantNotDone(t, m, api.Insn{Op: api.Emit, A: at})
			wantNotDone(t, m, api.Insn{Op: api.Const, D: at})
		}
	}
}

// wantDone holds Do of an instruction that tells nothing.
func wantDone(t *testing.T, m *Machine, x api.Insn) {
	t.Helper()
	if v, err := m.Do(x); v != 0 || err != nil {
		t.Fatalf("%+v: %d, %v", x, v, err)
	}
}

// wantNotDone holds Do of an instruction that may not be, R3 too: there is nothing beside the error.
func wantNotDone(t *testing.T, m *Machine, x api.Insn) {
	t.Helper()
	if v, err := m.Do(x); v != 0 || err != api.ErrArg {
		t.Fatalf("%+v: %d, %v", x, v, err)
	}
}

func wantTold(t *testing.T, m *Machine, cell int, want uint64) {
	t.Helper()
	if v, err := m.Do(api.Insn{Op: api.Emit, A: cell}); v != want || err != nil {
		t.Fatalf("cell %d: %d, %v, not %d", cell, v, err, want)
	}
}

// with tells a machine with these cells.
func with(t *testing.T, cells ...uint64) *Machine {
	t.Helper()
	m := New(len(cells))
	for at, v := range cells {
		wantDone(t, m, api.Insn{Op: api.Const, D: at, N: v})
	}
	m.Trace()
	return m
}

func wantCells(t *testing.T, m *Machine, want ...uint64) {
	t.Helper()
	for at, v := range want {
		wantTold(t, m, at, v)
	}
}

const most = math.MaxUint64

func TestDo(t *testing.T) {
	for _, c := range []struct {
		op      int
		a, b, c uint64
		n, want uint64
	}{
		{api.Const, 1, 2, 3, 0, 0}, {api.Const, 1, 2, 3, 9, 9}, {api.Const, 0, 0, 0, most, most}, {api.Const, 0, 0, 0, 1 << 63, 1 << 63},
		{api.In, 1, 2, 3, 0, 0}, {api.In, 1, 2, 3, 7, 7}, {api.In, 0, 0, 0, 255, 255}, {api.In, 0, 0, 0, 256, 256}, {api.In, 0, 0, 0, most, most},

		// Each bit of A counts, and A is told apart from 0 alone.
		{api.Sel, 0, 2, 3, 0, 3}, {api.Sel, 1, 2, 3, 0, 2}, {api.Sel, 2, 5, 9, 0, 5}, {api.Sel, 256, 2, 3, 0, 2}, {api.Sel, 1 << 32, 2, 3, 0, 2},
		{api.Sel, 1 << 63, 2, 3, 0, 2}, {api.Sel, most, 2, 3, 0, 2}, {api.Sel, 0, 2, most, 0, most}, {api.Sel, 1, most, 0, 0, most},
		{api.Sel, 1, 0, most, 0, 0}, {api.Sel, 0, most, 0, 0, 0}, {api.Sel, 0, 0, 0, 5, 0}, {api.Sel, 7, 7, 7, 5, 7},

		{api.Eq, 0, 0, 9, 0, 1}, {api.Eq, 5, 5, 9, 0, 1}, {api.Eq, most, most, 9, 0, 1}, {api.Eq, 0, 1, 9, 0, 0}, {api.Eq, 1, 0, 9, 0, 0},
		{api.Eq, 5, 1<<32 + 5, 5, 0, 0}, {api.Eq, 0, 1 << 63, 0, 0, 0}, {api.Eq, most, most - 1, 9, 0, 0}, {api.Eq, most, 0, 9, 0, 0}, {api.Eq, 2, 3, 2, 0, 0},

		// All numbers are from 0 on: none is below it.
		{api.Lt, 0, 0, 9, 0, 0}, {api.Lt, 0, 1, 9, 0, 1}, {api.Lt, 1, 0, 9, 0, 0}, {api.Lt, 5, 7, 9, 0, 1}, {api.Lt, 7, 5, 9, 0, 0}, {api.Lt, 7, 7, 9, 0, 0},
		{api.Lt, 0, most, 9, 0, 1}, {api.Lt, most, 0, 9, 0, 0}, {api.Lt, most - 1, most, 9, 0, 1}, {api.Lt, most, most, 9, 0, 0},
		{api.Lt, 1 << 63, 1<<63 - 1, 9, 0, 0}, {api.Lt, 1<<63 - 1, 1 << 63, 9, 0, 1}, {api.Lt, 1 << 32, 1, 9, 0, 0}, {api.Lt, 1, 1 << 32, 9, 0, 1},

		{api.Add, 0, 0, 9, 0, 0}, {api.Add, 5, 7, 9, 0, 12}, {api.Add, most, 1, 9, 0, 0}, {api.Add, 1, most, 9, 0, 0}, {api.Add, most, 5, 9, 0, 4},
		{api.Add, most, most, 9, 0, most - 1}, {api.Add, 1 << 63, 1 << 63, 9, 0, 0}, {api.Add, 1<<32 - 1, 1, 9, 0, 1 << 32}, {api.Add, 255, 1, 9, 9, 256},

		{api.CSub, 7, 5, 9, 0, 2}, {api.CSub, 5, 7, 9, 0, 5}, {api.CSub, 7, 7, 9, 0, 0}, {api.CSub, 0, 0, 9, 0, 0}, {api.CSub, 0, 1, 9, 0, 0},
		{api.CSub, 1, 0, 9, 0, 1}, {api.CSub, most, 1, 9, 0, most - 1}, {api.CSub, 1, most, 9, 0, 1}, {api.CSub, most, most, 9, 0, 0}, {api.CSub, most, 0, 9, 0, most},
		{api.CSub, most - 1, most, 9, 0, most - 1}, {api.CSub, 1 << 63, 1<<63 - 1, 9, 0, 1}, {api.CSub, 1<<63 - 1, 1 << 63, 9, 0, 1<<63 - 1},

		{api.Shl, 5, 9, 9, 0, 5}, {api.Shl, 5, 9, 9, 1, 10}, {api.Shl, 1, 9, 9, 63, 1 << 63}, {api.Shl, most, 9, 9, 63, 1 << 63}, {api.Shl, most, 9, 9, 1, most - 1},
		{api.Shl, 2, 9, 9, 63, 0}, {api.Shl, 0, 9, 9, 63, 0}, {api.Shl, 1, 9, 9, 32, 1 << 32}, {api.Shl, 1 << 63, 9, 9, 0, 1 << 63},
		{api.Shr, 5, 9, 9, 0, 5}, {api.Shr, 5, 9, 9, 1, 2}, {api.Shr, most, 9, 9, 63, 1}, {api.Shr, 1 << 63, 9, 9, 63, 1}, {api.Shr, 1<<63 - 1, 9, 9, 63, 0},
		{api.Shr, most, 9, 9, 1, 1<<63 - 1}, {api.Shr, 1 << 63, 9, 9, 62, 2}, {api.Shr, 1 << 32, 9, 9, 32, 1}, {api.Shr, most, 9, 9, 0, most},

		{api.And, 12, 10, 9, 0, 8}, {api.And, 5, 7, 9, 0, 5}, {api.And, most, 5, 9, 0, 5}, {api.And, 0, most, 9, 0, 0}, {api.And, 1 << 63, most, 9, 0, 1 << 63}, {api.And, 1, 2, 9, 0, 0},
		{api.Or, 12, 10, 9, 0, 14}, {api.Or, 5, 7, 9, 0, 7}, {api.Or, most, 5, 9, 0, most}, {api.Or, 0, 0, 9, 0, 0}, {api.Or, 1 << 63, 1, 9, 0, 1<<63 + 1}, {api.Or, 1, 2, 9, 0, 3},
	} {
		m := with(t, 11, c.a, c.b, c.c, 22)
		wantDone(t, m, api.Insn{Op: c.op, D: 0, A: 1, B: 2, C: 3, N: c.n})
		wantCells(t, m, c.want, c.a, c.b, c.c, 22)
	}
}

func TestEmit(t *testing.T) {
	m := with(t, 0, 1, 255, 256, 1<<63, most)
	for range 2 {
		for _, x := range []api.Insn{{}, {D: 3}, {D: -1}, {D: 6, B: 6, C: -6}, {B: 1, C: 2, N: 7}, {N: most}} {
			for at, want := range []uint64{0, 1, 255, 256, 1 << 63, most} {
				x.Op, x.A = api.Emit, at
				if v, err := m.Do(x); v != want || err != nil {
					t.Errorf("%+v: %d, %v, not %d", x, v, err, want)
				}
			}
		}
	}
	wantCells(t, m, 0, 1, 255, 256, 1<<63, most)
}

// The cells that an instruction names may be one.
func TestCellsThatAreTheSame(t *testing.T) {
	for _, c := range []struct {
		x    api.Insn
		want uint64
	}{
		{api.Insn{Op: api.Sel}, 5}, {api.Insn{Op: api.Sel, B: 1, C: 2}, 7}, {api.Insn{Op: api.Sel, A: 3, B: 1}, 5}, {api.Insn{Op: api.Sel, A: 1, C: 2}, 5},
		{api.Insn{Op: api.Eq}, 1}, {api.Insn{Op: api.Eq, B: 1}, 0}, {api.Insn{Op: api.Lt}, 0}, {api.Insn{Op: api.Lt, B: 1}, 1}, {api.Insn{Op: api.Lt, A: 1}, 0},
		{api.Insn{Op: api.Add}, 10}, {api.Insn{Op: api.Add, A: 1}, 12}, {api.Insn{Op: api.Add, B: 1}, 12},
		{api.Insn{Op: api.CSub}, 0}, {api.Insn{Op: api.CSub, A: 1}, 2}, {api.Insn{Op: api.CSub, B: 1}, 5},
		{api.Insn{Op: api.Shl, N: 2}, 20}, {api.Insn{Op: api.Shr, N: 2}, 1}, {api.Insn{Op: api.And}, 5}, {api.Insn{Op: api.And, B: 2}, 1}, {api.Insn{Op: api.Or}, 5}, {api.Insn{Op: api.Or, A: 2}, 13},
	} {
		m := with(t, 5, 7, 9, 0)
		wantDone(t, m, c.x)
		wantCells(t, m, c.want, 7, 9, 0)
	}
}

// names tells which of D, A, B, C an Op names, as the chapter's table has them.
var names = []string{"D", "DABC", "DAB", "DAB", "DAB", "DAB", "DA", "DA", "DAB", "DAB", "D", "A"}

// Each cell in the place of each field: what is named is to be there, and what isn't may be any.
func TestWhatMayNotBe(t *testing.T) {
	for op, named := range names {
		for _, field := range "DABC" {
			for _, at := range []int{math.MinInt, -1 << 32, -200000, -4, -1, 0, 1, 3, 4, 5, 256, 200000, 1 << 32, 1<<32 + 1, math.MaxInt} {
				m := with(t, 5, 7, 9, most)
				x := api.Insn{Op: op, D: 0, A: 1, B: 2, C: 3, N: 3}
				switch field {
				case 'D':
					x.D = at
				case 'A':
					x.A = at
				case 'B':
					x.B = at
				case 'C':
					x.C = at
				}
				_, err := m.Do(x)
				if may := at >= 0 && at < 4 || !slices.Contains([]rune(named), field); may != (err == nil) || !may && err != api.ErrArg {
					t.Fatalf("%+v: %v", x, err)
				}
				if err != nil {
					wantNothingDone(t, m, x)
				}
			}
		}
	}
}

// wantNothingDone holds Do of what may not be, of a machine with these four cells.
func wantNothingDone(t *testing.T, m *Machine, x api.Insn) {
	t.Helper()
	wantNotDone(t, m, x)
	if l := m.Trace(); len(l) != 0 {
		t.Fatalf("%+v may not be, but it is in the trace: %v", x, l)
	}
	wantCells(t, m, 5, 7, 9, most)
}

func TestOpsThatMayNotBe(t *testing.T) {
	for _, op := range []int{math.MinInt, -1 << 32, -256, -12, -2, -1, 12, 13, 77, 256, 256 + api.Emit, 1 << 32, 1<<32 + api.Add, math.MaxInt} {
		wantNothingDone(t, with(t, 5, 7, 9, most), api.Insn{Op: op, D: 0, A: 1, B: 2, C: 3, N: 3})
	}
}

// Numbers of bits are 0 to 63; else N may be any.
func TestN(t *testing.T) {
	for op := range names {
		for _, n := range []uint64{0, 1, 31, 32, 33, 62, 63, 64, 65, 127, 128, 255, 256, 1 << 32, 1<<32 + 1, 1 << 63, most - 63, most} {
			m := with(t, 5, 7, 9, most)
			x := api.Insn{Op: op, D: 0, A: 1, B: 2, C: 3, N: n}
			if (op == api.Shl || op == api.Shr) && n > 63 {
				wantNothingDone(t, m, x)
			} else if _, err := m.Do(x); err != nil {
				t.Errorf("%+v: %v", x, err)
			}
		}
	}
	for n := range 64 {
		m := with(t, 0, most, 1<<63)
		wantDone(t, m, api.Insn{Op: api.Shl, A: 1, N: uint64(n)})
		wantTold(t, m, 0, most-(1<<n-1))
		wantDone(t, m, api.Insn{Op: api.Shr, A: 2, N: uint64(n)})
		wantTold(t, m, 0, 1<<(63-n))
	}
}

// wantTrace holds what was done since the last Trace.
func wantTrace(t *testing.T, m *Machine, want ...api.Insn) {
	t.Helper()
	if l := m.Trace(); !slices.Equal(l, want) {
		t.Fatalf("the trace is %v, not %v", l, want)
	}
}

func TestTrace(t *testing.T) {
	m := New(3)
	wantTrace(t, m)
	in, told := api.Insn{Op: api.In, D: 1, N: 9}, api.Insn{Op: api.In, D: 1}
	wantDone(t, m, in)
	wantTrace(t, m, told)
	wantTrace(t, m)

	// Only the N of In is left out; what isn't named stays as it was given.
	for op, named := range names {
		x := api.Insn{Op: op, D: 1, A: 2, B: 1, C: 2, N: 63}
		y := api.Insn{Op: op, D: math.MinInt, A: math.MaxInt, B: -1, C: 200001, N: 17}
		for _, field := range named {
			switch field {
			case 'D':
				y.D = 2
			case 'A':
				y.A = 0
			case 'B':
				y.B = 2
			case 'C':
				y.C = 0
			}
		}
		for _, z := range []api.Insn{x, y, x, x} {
			if _, err := m.Do(z); err != nil {
				t.Fatalf("%+v: %v", z, err)
			}
		}
		if op == api.In {
			x.N, y.N = 0, 0
		}
		wantTrace(t, m, x, y, x, x)
	}
	wantTrace(t, m)

	// In order, with none of those that may not be.
	emit := api.Insn{Op: api.Emit, A: 1}
	for _, x := range []api.Insn{{Op: 12}, in, {Op: api.In, D: 3, N: 9}, emit, {Op: api.Emit, A: -1}, {Op: api.Shl, N: 64}, in, in, {Op: -1}} {
		m.Do(x)
	}
	wantTrace(t, m, told, emit, told, told)

	// Trace changes no cell.
	wantTold(t, m, 1, 9)
	wantTrace(t, m, emit)
}

func TestLongTraces(t *testing.T) {
	m := New(1)
	for _, size := range []int{0, 1, 2, 255, 256, 257, 511, 512, 513, 1024, 4095, 4096, 4097, 100000, 1 << 20, 0, 3} {
		want := make([]api.Insn, size)
		for i := range want {
			want[i] = api.Insn{Op: api.Const, A: i, N: uint64(size)}
			wantDone(t, m, want[i])
		}
		if l := m.Trace(); !slices.Equal(l, want) {
			t.Fatalf("not as the %d that were done", size)
		}
	}
}

// Each machine has cells and a trace of its own.
func TestMachinesAreApart(t *testing.T) {
	a, b := New(2), New(2)
	x := api.Insn{Op: api.Const, D: 1, N: 5}
	wantDone(t, a, x)
	wantTrace(t, b)
	wantCells(t, b, 0, 0)
	wantTrace(t, a, x)
	wantCells(t, a, 0, 5)
}

// P10.2: what Trace told may be overwritten, and the room behind it.
func TestWhatIsToldIsNew(t *testing.T) {
	for _, size := range []int{1, 3, 255, 256, 257, 1000} {
		m := New(1)
		done := func(n uint64) []api.Insn {
			want := make([]api.Insn, size)
			for i := range want {
				want[i] = api.Insn{Op: api.Const, B: i, N: n}
				wantDone(t, m, want[i])
			}
			return want
		}
		first := done(1)
		a := m.Trace()
		second := done(2)
		if !slices.Equal(a, first) {
			t.Fatalf("%d: what Trace told changes as more is done", size)
		}
		spoil(a)
		b := m.Trace()
		if !slices.Equal(b, second) {
			t.Fatalf("%d: the trace changes with what was told ahead of it", size)
		}
		third := done(3)
		spoil(a)
		wantTrace(t, m, third...)
		if !slices.Equal(b, second) {
			t.Fatalf("%d: two traces share memory", size)
		}
		wantTold(t, m, 0, 3)
	}
}

func spoil(l []api.Insn) {
	l = l[:cap(l)]
	for i := range l {
		l[i] = api.Insn{Op: -7, D: -7, A: -7, B: -7, C: -7, N: 7}
	}
}

// The example of the chapter.
func TestExample(t *testing.T) {
	m := New(1)
	wantDone(t, m, api.Insn{Op: api.In, D: 0, N: 7})
	wantTold(t, m, 0, 7)
}
