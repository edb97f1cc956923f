package macro

import (
	"math"
	"math/big"
	"slices"
	"testing"

	"snaffle/api"
	"snaffle/ct"
)

const most = math.MaxUint64

// P11.1, as are all up to TestCopy: what is told is held against lists written out by hand.
func TestLook(t *testing.T) {
	for _, c := range []struct {
		dst, key, base, n, step, tmp int
		want                         []api.Insn
	}{
		{9, 1, 20, 0, 3, 5, []api.Insn{{Op: 0, D: 9}}},
		{0, 0, 0, 0, 0, 0, []api.Insn{{}}},
		{9, 1, 20, 1, 3, 5, []api.Insn{{Op: 0, D: 9}, {Op: 0, D: 5}, {Op: 2, D: 5, A: 5, B: 1}, {Op: 1, D: 9, A: 5, B: 20, C: 9}}},
		{9, 1, 20, 3, 3, 5, []api.Insn{
			{Op: 0, D: 9},
			{Op: 0, D: 5, N: 0}, {Op: 2, D: 5, A: 5, B: 1}, {Op: 1, D: 9, A: 5, B: 20, C: 9},
			{Op: 0, D: 5, N: 3}, {Op: 2, D: 5, A: 5, B: 1}, {Op: 1, D: 9, A: 5, B: 21, C: 9},
			{Op: 0, D: 5, N: 6}, {Op: 2, D: 5, A: 5, B: 1}, {Op: 1, D: 9, A: 5, B: 22, C: 9},
		}},
		// Cells that no machine has, and those that are the same, are told as they are.
		{-1, 1 << 40, -2, 3, 0, -7, []api.Insn{
			{Op: 0, D: -1},
			{Op: 0, D: -7}, {Op: 2, D: -7, A: -7, B: 1 << 40}, {Op: 1, D: -1, A: -7, B: -2, C: -1},
			{Op: 0, D: -7}, {Op: 2, D: -7, A: -7, B: 1 << 40}, {Op: 1, D: -1, A: -7, B: -1, C: -1},
			{Op: 0, D: -7}, {Op: 2, D: -7, A: -7, B: 1 << 40}, {Op: 1, D: -1, A: -7, B: 0, C: -1},
		}},
		{4, 4, 4, 1, 4, 4, []api.Insn{{Op: 0, D: 4}, {Op: 0, D: 4}, {Op: 2, D: 4, A: 4, B: 4}, {Op: 1, D: 4, A: 4, B: 4, C: 4}}},
		// A step below 0, and a base that goes around.
		{2, 3, math.MaxInt, 3, -1, 6, []api.Insn{
			{Op: 0, D: 2},
			{Op: 0, D: 6, N: 0}, {Op: 2, D: 6, A: 6, B: 3}, {Op: 1, D: 2, A: 6, B: math.MaxInt, C: 2},
			{Op: 0, D: 6, N: most}, {Op: 2, D: 6, A: 6, B: 3}, {Op: 1, D: 2, A: 6, B: math.MinInt, C: 2},
			{Op: 0, D: 6, N: most - 1}, {Op: 2, D: 6, A: 6, B: 3}, {Op: 1, D: 2, A: 6, B: math.MinInt + 1, C: 2},
		}},
		// Steps whose times are more than 64 bits.
		{2, 3, 10, 4, math.MinInt, 6, []api.Insn{
			{Op: 0, D: 2},
			{Op: 0, D: 6, N: 0}, {Op: 2, D: 6, A: 6, B: 3}, {Op: 1, D: 2, A: 6, B: 10, C: 2},
			{Op: 0, D: 6, N: 1 << 63}, {Op: 2, D: 6, A: 6, B: 3}, {Op: 1, D: 2, A: 6, B: 11, C: 2},
			{Op: 0, D: 6, N: 0}, {Op: 2, D: 6, A: 6, B: 3}, {Op: 1, D: 2, A: 6, B: 12, C: 2},
			{Op: 0, D: 6, N: 1 << 63}, {Op: 2, D: 6, A: 6, B: 3}, {Op: 1, D: 2, A: 6, B: 13, C: 2},
		}},
		{2, 3, 10, 4, math.MaxInt, 6, []api.Insn{
			{Op: 0, D: 2},
			{Op: 0, D: 6, N: 0}, {Op: 2, D: 6, A: 6, B: 3}, {Op: 1, D: 2, A: 6, B: 10, C: 2},
			{Op: 0, D: 6, N: math.MaxInt}, {Op: 2, D: 6, A: 6, B: 3}, {Op: 1, D: 2, A: 6, B: 11, C: 2},
			{Op: 0, D: 6, N: most - 1}, {Op: 2, D: 6, A: 6, B: 3}, {Op: 1, D: 2, A: 6, B: 12, C: 2},
			{Op: 0, D: 6, N: math.MaxInt - 2}, {Op: 2, D: 6, A: 6, B: 3}, {Op: 1, D: 2, A: 6, B: 13, C: 2},
		}},
	} {
		if l := Look(c.dst, c.key, c.base, c.n, c.step, c.tmp); !slices.Equal(l, c.want) {
			t.Errorf("Look(%d, %d, %d, %d, %d, %d) tells %v, not %v", c.dst, c.key, c.base, c.n, c.step, c.tmp, l, c.want)
		}
	}
}

// How many instructions there are: none at all where n is below 0, or above MaxCells.
func TestHowManyLookTells(t *testing.T) {
	for _, c := range []struct{ n, want int }{
		{math.MinInt, 0}, {-1 << 32, 0}, {-200000, 0}, {-2, 0}, {-1, 0}, {0, 1}, {1, 4}, {2, 7}, {255, 766}, {256, 769}, {1024, 3073}, {65537, 196612},
		{199999, 599998}, {200000, 600001}, {200001, 0}, {600001, 0}, {1 << 31, 0}, {1 << 32, 0}, {1<<32 + 1, 0}, {math.MaxInt / 3, 0}, {math.MaxInt, 0},
	} {
		if l := Look(9, 1, 20, c.n, 3, 5); len(l) != c.want {
			t.Errorf("Look with n %d tells %d instructions, not %d", c.n, len(l), c.want)
		}
	}
}

// around tells a number modulo 2^64, from 0 on.
func around(v *big.Int) uint64 {
	return v.Mod(v, new(big.Int).Lsh(big.NewInt(1), 64)).Uint64()
}

// words tells what the chapter has Look tell, by numbers without end.
func words(dst, key, base, n, step, tmp int) []api.Insn {
	l := []api.Insn{{Op: api.Const, D: dst}}
	for i := 0; i < n; i++ {
		at := big.NewInt(int64(i))
		times := around(new(big.Int).Mul(at, big.NewInt(int64(step))))
		cell := around(new(big.Int).Add(at, big.NewInt(int64(base))))
		l = append(l, api.Insn{Op: api.Const, D: tmp, N: times})
		l = append(l, api.Insn{Op: api.Eq, D: tmp, A: tmp, B: key})
		l = append(l, api.Insn{Op: api.Sel, D: dst, A: tmp, B: int(int64(cell)), C: dst})
	}
	return l
}

// edges are numbers at which something turns.
var edges = []int{math.MinInt, math.MinInt + 1, -1 << 32, -200001, -3, -1, 0, 1, 2, 3, 255, 256, 200000, 1<<31 - 1, 1 << 32, 1<<62 + 1, math.MaxInt - 1, math.MaxInt}

func TestLookAtEdges(t *testing.T) {
	for _, base := range edges {
		for _, step := range edges {
			for i, dst := range edges {
				key, tmp := edges[len(edges)-1-i], edges[(i+5)%len(edges)]
				for n := range 6 {
					if l := Look(dst, key, base, n, step, tmp); !slices.Equal(l, words(dst, key, base, n, step, tmp)) {
						t.Fatalf("Look(%d, %d, %d, %d, %d, %d) tells %v", dst, key, base, n, step, tmp, l)
					}
				}
			}
		}
	}
	for _, base := range []int{0, 7, math.MaxInt - 1000} {
		for _, step := range []int{0, 1, 256, -5, math.MaxInt / 3} {
			if l := Look(1, 2, base, api.MaxCells, step, 3); !slices.Equal(l, words(1, 2, base, api.MaxCells, step, 3)) {
				t.Errorf("Look of %d, from %d on, with step %d, is another one", api.MaxCells, base, step)
			}
		}
	}
}

func TestCopy(t *testing.T) {
	for _, dst := range edges {
		for _, src := range edges {
			want := []api.Insn{{Op: 1, D: dst, A: src, B: src, C: src}}
			if l := Copy(dst, src); !slices.Equal(l, want) {
				t.Errorf("Copy(%d, %d) tells %v", dst, src, l)
			}
		}
	}
}

// with tells a machine with these cells, and an empty trace.
func with(t *testing.T, cells ...uint64) *ct.Machine {
	t.Helper()
	m := ct.New(len(cells))
	for at, v := range cells {
		if _, err := m.Do(api.Insn{Op: api.Const, D: at, N: v}); err != nil {
			t.Fatal(err)
		}
	}
	m.Trace()
	return m
}

// wantCells holds what stands in the cells from 0 on, and leaves the trace empty.
func wantCells(t *testing.T, m *ct.Machine, want ...uint64) {
	t.Helper()
	for at, w := range want {
		if v, err := m.Do(api.Insn{Op: api.Emit, A: at}); v != w || err != nil {
			t.Fatalf("cell %d: %d, %v, not %d", at, v, err, w)
		}
	}
	m.Trace()
}

func wantTrace(t *testing.T, m *ct.Machine, want ...api.Insn) {
	t.Helper()
	if l := m.Trace(); !slices.Equal(l, want) {
		t.Fatalf("the trace is %v, not %v", l, want)
	}
}

// P11.2, as are all up to TestRunOfMany.
func TestRun(t *testing.T) {
	in, emit := api.Insn{Op: api.In, D: 1, N: 9}, api.Insn{Op: api.Emit, A: 1}
	for _, c := range []struct {
		l     []api.Insn
		want  []uint64
		cells []uint64
	}{
		{nil, nil, []uint64{5, 7, 0}},
		{[]api.Insn{}, nil, []uint64{5, 7, 0}},
		{[]api.Insn{in}, nil, []uint64{5, 9, 0}},
		{[]api.Insn{emit}, []uint64{7}, []uint64{5, 7, 0}},
		{[]api.Insn{{Op: api.Emit, A: 2}}, []uint64{0}, []uint64{5, 7, 0}},
		{[]api.Insn{emit, in, emit, {Op: api.Emit}, {Op: api.Emit, A: 2}, emit}, []uint64{7, 9, 5, 0, 9}, []uint64{5, 9, 0}},
		{[]api.Insn{{Op: api.Add, D: 2, A: 0, B: 1}, {Op: api.Add, D: 2, A: 2, B: 2}, {Op: api.CSub, D: 0, A: 2, B: 1}}, nil, []uint64{17, 7, 24}},
		{[]api.Insn{{Op: api.Add, D: 2, A: 0, B: 1}, {Op: api.Emit, A: 2}, {Op: api.Shl, D: 2, A: 2, N: 1}, {Op: api.Emit, A: 2}}, []uint64{12, 24}, []uint64{5, 7, 24}},
		// An Emit that names cells which aren't there tells all the same, if A is.
		{[]api.Insn{{Op: api.Emit, A: 1, D: -1, B: 3, C: 1 << 40, N: 64}}, []uint64{7}, []uint64{5, 7, 0}},
	} {
		m := with(t, 5, 7, 0)
		if v, err := Run(m, c.l); err != nil || !slices.Equal(v, c.want) {
			t.Errorf("%v tells %v, %v, not %v", c.l, v, err, c.want)
		}
		wantTrace(t, m, traces(c.l)...)
		wantCells(t, m, c.cells...)
	}
}

// traces tells the instructions with no number in In.
func traces(l []api.Insn) []api.Insn {
	l = slices.Clone(l)
	for i := range l {
		if l[i].Op == api.In {
			l[i].N = 0
		}
	}
	return l
}

// mayNot are instructions that may not be, in a machine of three cells.
var mayNot = []api.Insn{
	{Op: -1}, {Op: 12}, {Op: math.MaxInt}, {Op: api.Const, D: 3}, {Op: api.In, D: -1, N: 9}, {Op: api.Sel, C: 3}, {Op: api.Eq, B: 3}, {Op: api.Lt, A: -1},
	{Op: api.Add, D: 200000}, {Op: api.CSub, B: -1}, {Op: api.Shl, D: 1, N: 64}, {Op: api.Shr, D: 1, N: most}, {Op: api.And, D: 3}, {Op: api.Or, A: 3}, {Op: api.Emit, A: 3}, {Op: api.Emit, A: -1},
}

// What stands ahead of the first error is done, and told nothing of; what stands behind it isn't done.
func TestRunToTheFirstError(t *testing.T) {
	ahead := []api.Insn{{Op: api.Emit, A: 1}, {Op: api.Const, D: 0, N: 8}, {Op: api.Emit}, {Op: api.In, D: 2, N: 6}, {Op: api.Emit, A: 2}}
	cells := [][]uint64{{5, 7, 1}, {5, 7, 1}, {8, 7, 1}, {8, 7, 1}, {8, 7, 6}, {8, 7, 6}}
	behind := [][]api.Insn{nil, {{Op: api.Const, D: 1, N: 3}}, {{Op: api.Emit, A: 1}}, {{Op: api.Emit, A: 3}}, {{Op: 12}, {Op: api.In, D: 1, N: 4}, {Op: api.Emit, A: 1}}}
	for _, bad := range mayNot {
		for n := range len(ahead) + 1 {
			for _, rest := range behind {
				m := with(t, 5, 7, 1)
				v, err := Run(m, slices.Concat(ahead[:n], []api.Insn{bad}, rest))
				if len(v) != 0 || err != api.ErrArg {
					t.Fatalf("%d, then %+v: %v, %v", n, bad, v, err)
				}
				wantTrace(t, m, traces(ahead[:n])...)
				wantCells(t, m, cells[n]...)
			}
		}
	}
}

// What was done stays: one list, parted anywhere, does the same, and tells the same.
func TestRunGoesOn(t *testing.T) {
	l := []api.Insn{{Op: api.In, D: 0, N: 3}, {Op: api.Emit}, {Op: api.Add, D: 1, A: 1, B: 0}, {Op: api.Emit, A: 1}, {Op: api.Shl, D: 1, A: 1, N: 4}, {Op: api.Emit, A: 1}, {Op: api.Sel, D: 0, A: 2, B: 0, C: 1}, {Op: api.Emit}}
	for n := range len(l) + 1 {
		m := with(t, 5, 7, 0)
		v, err := Run(m, l[:n])
		w, other := Run(m, l[n:])
		if told := slices.Concat(v, w); err != nil || other != nil || !slices.Equal(told, []uint64{3, 10, 160, 160}) {
			t.Errorf("parted at %d: %v, %v, %v", n, told, err, other)
		}
		wantTrace(t, m, traces(l)...)
		wantCells(t, m, 160, 160, 0)
	}
}

func TestRunOfMany(t *testing.T) {
	for _, size := range []int{1, 2, 255, 256, 257, 4096, 100000, 1 << 20} {
		m := ct.New(2)
		l := make([]api.Insn, 0, 2*size)
		want := make([]uint64, size)
		for i := range want {
			want[i] = uint64(i) * 0x9e3779b97f4a7c15
			l = append(l, api.Insn{Op: api.In, D: 1, N: want[i]}, api.Insn{Op: api.Emit, A: 1})
		}
		if v, err := Run(m, l); err != nil || !slices.Equal(v, want) {
			t.Errorf("%d: not as the cells were, %v", size, err)
		}
		v, err := Run(m, append(l, api.Insn{Op: 12}))
		if len(v) != 0 || err != api.ErrArg {
			t.Errorf("%d: %d were told beside the error %v", size, len(v), err)
		}
	}
}

// P11.3, as are all up to TestRunLeavesTheList: what is told may be overwritten, and the room behind it.
func TestWhatLookTellsIsNew(t *testing.T) {
	for _, n := range []int{0, 1, 2, 3, 100} {
		a := Look(9, 1, 20, n, 3, 5)
		b := Look(9, 1, 20, n, 3, 5)
		spoil(a)
		if want := words(9, 1, 20, n, 3, 5); !slices.Equal(b, want) || !slices.Equal(Look(9, 1, 20, n, 3, 5), want) {
			t.Errorf("Look of %d changes with what was told ahead of it", n)
		}
	}
	a, b := Copy(3, 4), Copy(3, 4)
	spoil(a)
	if want := []api.Insn{{Op: api.Sel, D: 3, A: 4, B: 4, C: 4}}; !slices.Equal(b, want) || !slices.Equal(Copy(3, 4), want) {
		t.Error("Copy changes with what was told ahead of it")
	}
}

func spoil(l []api.Insn) {
	l = l[:cap(l)]
	for i := range l {
		l[i] = api.Insn{Op: -7, D: -7, A: -7, B: -7, C: -7, N: 7}
	}
}

func TestWhatRunTellsIsNew(t *testing.T) {
	m := with(t, 5, 7, 9)
	l := []api.Insn{{Op: api.Emit}, {Op: api.Emit, A: 1}, {Op: api.Emit, A: 2}}
	a, err := Run(m, l)
	b, other := Run(m, l)
	a = a[:cap(a)]
	for i := range a {
		a[i] = 77
	}
	c, third := Run(m, l)
	want := []uint64{5, 7, 9}
	if err != nil || other != nil || third != nil || !slices.Equal(b, want) || !slices.Equal(c, want) {
		t.Error(b, c, err, other, third)
	}
	wantTrace(t, m, slices.Concat(l, l, l)...)
	wantCells(t, m, 5, 7, 9)
}

// R2: the list is neither changed nor kept, nor is the room behind it used.
func TestRunLeavesTheList(t *testing.T) {
	l := []api.Insn{{Op: api.In, D: 1, N: 9}, {Op: api.Emit, A: 1}, {Op: api.Add, D: 1, A: 1, B: 0}, {Op: api.Emit, A: 2}, {Op: 12}, {Op: api.In, D: 2, N: 8}}
	was := slices.Clone(l)
	for n := range len(l) + 1 {
		m := with(t, 5, 7, 0)
		Run(m, l[:n])
		if !slices.Equal(l, was) {
			t.Fatalf("the list is changed: %v", l)
		}
		done := traces(was[:min(n, 4)])
		spoil(l)
		wantTrace(t, m, done...)
		copy(l, was)
	}
}

// The examples of the chapter.
func TestExamples(t *testing.T) {
	if l := Look(1, 2, 3, 1, 4, 5); len(l) != 4 {
		t.Error(l)
	}
}
