package macro

import (
	"math"
	"math/rand/v2"
	"slices"
	"testing"

	"snaffle/api"
	"snaffle/ct"
)

// looked tells what the chapter has in dst behind Look: what stands at the last place i whose times of step is key.
func looked(at []uint64, key uint64, step int) uint64 {
	v, times := uint64(0), uint64(0)
	for _, worth := range at {
		if times == key {
			v = worth
		}
		times += uint64(step)
	}
	return v
}

// P11.4, as are all up to TestLookThroughAllCells.
func TestLooked(t *testing.T) {
	for _, c := range []struct {
		at   []uint64
		key  uint64
		step int
		want uint64
	}{
		{nil, 0, 1, 0},
		{[]uint64{11}, 0, 1, 11}, {[]uint64{11}, 1, 1, 0}, {[]uint64{11}, 0, 0, 11}, {[]uint64{11}, most, -1, 0},
		{[]uint64{11, 12, 13}, 0, 3, 11}, {[]uint64{11, 12, 13}, 3, 3, 12}, {[]uint64{11, 12, 13}, 6, 3, 13},
		{[]uint64{11, 12, 13}, 9, 3, 0}, {[]uint64{11, 12, 13}, 1, 3, 0}, {[]uint64{11, 12, 13}, 2, 3, 0}, {[]uint64{11, 12, 13}, 1<<32 + 3, 3, 0},
		// The last one of those that are the same, also where it is 0.
		{[]uint64{11, 12, 13}, 0, 0, 13}, {[]uint64{11, 12, 0}, 0, 0, 0}, {[]uint64{11, 12, 13}, 1, 0, 0},
		{[]uint64{11, 12, 13, 14}, 0, math.MinInt, 13}, {[]uint64{11, 12, 13, 14}, 1 << 63, math.MinInt, 14}, {[]uint64{11, 12, 13, 14, 15}, 0, 1 << 62, 15},
		{[]uint64{11, 12, 13}, most, -1, 12}, {[]uint64{11, 12, 13}, most - 1, -1, 13}, {[]uint64{11, 12, 13}, 1, -1, 0},
		{[]uint64{most, 0, 1 << 63}, 0, 256, most}, {[]uint64{most, 0, 1 << 63}, 256, 256, 0}, {[]uint64{most, 0, 1 << 63}, 512, 256, 1 << 63},
	} {
		m := with(t, append([]uint64{77, c.key, 78, 79}, c.at...)...)
		v, err := Run(m, append(Look(0, 1, 4, len(c.at), c.step, 2), api.Insn{Op: api.Emit}))
		if err != nil || len(v) != 1 || v[0] != c.want || looked(c.at, c.key, c.step) != c.want {
			t.Errorf("%d among %v, with step %d: %v, %v, not %d", c.key, c.at, c.step, v, err, c.want)
		}
	}
}

// layout tells where dst, key and tmp are, and where n cells begin, all of them apart, among this many cells.
func layout(dice *rand.Rand, cells, n int) (dst, key, base, tmp int) {
	base = dice.IntN(cells - n + 1)
	var rest []int
	for at := range cells {
		if at < base || at >= base+n {
			rest = append(rest, at)
		}
	}
	dice.Shuffle(len(rest), func(i, j int) { rest[i], rest[j] = rest[j], rest[i] })
	return rest[0], rest[1], base, rest[2]
}

// made tells a number that is often one of few.
func made(dice *rand.Rand) uint64 {
	switch dice.IntN(3) {
	case 0:
		return dice.Uint64N(4)
	case 1:
		return dice.Uint64() >> dice.IntN(64)
	}
	return uint64(edges[dice.IntN(len(edges))])
}

// All cells but dst and tmp stay as they are, and the trace is what Look told.
func TestMadeLooks(t *testing.T) {
	dice := rand.New(rand.NewPCG(11, 1))
	found := 0
	for range 20000 {
		n := dice.IntN(9)
		cells := make([]uint64, n+3+dice.IntN(4))
		for i := range cells {
			cells[i] = made(dice)
		}
		dst, key, base, tmp := layout(dice, len(cells), n)
		step := int(made(dice))
		if dice.IntN(3) > 0 && n > 0 {
			cells[key] = uint64(dice.IntN(n)) * uint64(step)
			found++
		}
		m := with(t, cells...)
		l := Look(dst, key, base, n, step, tmp)
		if v, err := Run(m, l); err != nil || len(v) != 0 {
			t.Fatal(v, err)
		}
		wantTrace(t, m, l...)
		want := slices.Clone(cells)
		want[dst] = looked(cells[base:base+n], cells[key], step)
		if n > 0 {
			want[tmp] = 0
			if uint64(n-1)*uint64(step) == cells[key] {
				want[tmp] = 1
			}
		}
		wantCells(t, m, want...)
	}
	if found < 5000 {
		t.Error("too few keys that are there:", found)
	}
}

// A cell is copied, whatever stands in it and in the other one, also onto itself.
func TestCopied(t *testing.T) {
	for _, a := range edges {
		for _, b := range edges {
			for src := range 3 {
				for dst := range 3 {
					cells := []uint64{uint64(a), uint64(b), 7}
					m := with(t, cells...)
					l := Copy(dst, src)
					if v, err := Run(m, l); err != nil || len(v) != 0 {
						t.Fatal(v, err)
					}
					wantTrace(t, m, l...)
					cells[dst] = cells[src]
					wantCells(t, m, cells...)
				}
			}
		}
	}
}

// As many cells as there may be, looked through for the first, the last, one amid them, and for none.
func TestLookThroughAllCells(t *testing.T) {
	const n = api.MaxCells - 3
	m := ct.New(api.MaxCells)
	for at := range n {
		if _, err := m.Do(api.Insn{Op: api.Const, D: 3 + at, N: uint64(at) ^ 0xabcdef0123456789}); err != nil {
			t.Fatal(err)
		}
	}
	l := append(Look(0, 1, 3, n, 256, 2), api.Insn{Op: api.Emit})
	for _, c := range []struct{ key, want uint64 }{
		{0, 0xabcdef0123456789}, {256, 1 ^ 0xabcdef0123456789}, {256 * 77777, 77777 ^ 0xabcdef0123456789}, {256 * (n - 1), (n - 1) ^ 0xabcdef0123456789},
		{256 * n, 0}, {255, 0}, {1, 0}, {most, 0},
	} {
		v, err := Run(m, append([]api.Insn{{Op: api.In, D: 1, N: c.key}}, l...))
		if err != nil || len(v) != 1 || v[0] != c.want {
			t.Errorf("%d: %v, %v, not %d", c.key, v, err, c.want)
		}
		m.Trace()
	}
	// One cell more is out of the machine.
	if v, err := Run(m, Look(0, 1, 3, n+1, 256, 2)); err != api.ErrArg || len(v) != 0 {
		t.Error(v, err)
	}
}

// What is done hangs on no cell: whatever key comes in, the trace is one, and as many are told.
func TestTraceHangsOnNoKey(t *testing.T) {
	dice := rand.New(rand.NewPCG(11, 2))
	var want []api.Insn
	for i := range 1000 {
		m := with(t, 0, 0, 0, 11, 12, 13, 14)
		l := []api.Insn{{Op: api.In, D: 1, N: made(dice)}}
		l = slices.Concat(l, Look(0, 1, 3, 4, 2, 2), Copy(6, 0), []api.Insn{{Op: api.Emit, A: 6}})
		v, err := Run(m, l)
		if err != nil || len(v) != 1 {
			t.Fatal(v, err)
		}
		if i == 0 {
			want = m.Trace()
			continue
		}
		wantTrace(t, m, want...)
	}
}
