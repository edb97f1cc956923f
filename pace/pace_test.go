package pace

import (
	"math"
	"testing"

	"snaffle/api"
)

// opened and closed tell a pace as it stands, open or Closed.
func opened(lambda, k, q, ring, queue int) Pace {
	return Pace{Lambda: lambda, K: k, Q: q, Ring: ring, Queue: queue}
}

func closed(lambda, k, q, queue int) Pace {
	return Pace{Lambda: lambda, K: k, Q: q, Queue: queue, Closed: true}
}

// wantNew holds what New tells against a pace with nothing in it, or ErrArg, if it may not be.
func wantNew(t *testing.T, lambda, k, q int, ok bool) {
	t.Helper()
	want, fault := Pace{}, error(api.ErrArg)
	if ok {
		want, fault = opened(lambda, k, q, 0, 0), nil
	}
	if p, err := New(lambda, k, q); p != want || err != fault {
		t.Errorf("New(%d, %d, %d): %+v, %v, not %+v, %v", lambda, k, q, p, err, want, fault)
	}
}

// wantWrite holds what Write tells, twice, since the pace that it is asked of stays as it is.
func wantWrite(t *testing.T, p Pace, n int, want Pace, taken int, fault error) {
	t.Helper()
	for range 2 {
		if got, k, err := p.Write(n); got != want || k != taken || err != fault {
			t.Errorf("Write(%d) of %+v: %+v, %d, %v, not %+v, %d, %v", n, p, got, k, err, want, taken, fault)
		}
	}
}

func wantTick(t *testing.T, p, want Pace, told int) {
	t.Helper()
	for range 2 {
		if got, k := p.Tick(); got != want || k != told {
			t.Errorf("Tick of %+v: %+v, %d, not %+v, %d", p, got, k, want, told)
		}
	}
}

func wantClose(t *testing.T, p, want Pace, fault error) {
	t.Helper()
	for range 2 {
		if got, err := p.Close(); got != want || err != fault {
			t.Errorf("Close of %+v: %+v, %v, not %+v, %v", p, got, err, want, fault)
		}
	}
}

// P13.1, as are all up to TestClosedIsToldBehindArg.
func TestNew(t *testing.T) {
	for _, c := range []struct {
		lambda, k, q int
		ok           bool
	}{
		{1, 1, 1, true}, {32, 1, 1, true}, {1, 1024, 1024, true}, {32, 1024, 1024, true}, {1, 1, 1024, true}, {3, 2, 4, true}, {7, 5, 5, true}, {32, 1, 2, true},

		{0, 1, 1, false}, {-1, 1, 1, false}, {33, 1, 1, false}, {33, 1024, 1024, false}, {1024, 1, 1, false}, {math.MinInt, 1, 1, false}, {math.MaxInt, 1, 1, false},
		{1<<32 + 1, 1, 1, false}, {1<<8 + 1, 1, 1, false},

		{1, 0, 1, false}, {1, 0, 0, false}, {1, -1, 1, false}, {1, -1, -1, false}, {1, 1, 0, false}, {1, 1, -1, false}, {1, math.MinInt, 1, false}, {1, 1, math.MinInt, false},
		{1, 2, 1, false}, {1, 5, 4, false}, {1, 1024, 1023, false}, {1, math.MaxInt, 1, false}, {1, math.MaxInt, 1024, false},

		{1, 1, 1025, false}, {1, 1025, 1025, false}, {1, 1025, 1024, false}, {1, 1024, 1025, false}, {1, 1, math.MaxInt, false}, {1, math.MaxInt, math.MaxInt, false},
		{1, 1<<32 + 1, 1<<32 + 1, false}, {1, 1, 1<<32 + 1, false}, {1, 1, 1 << 16, false},

		{0, 0, 0, false}, {33, 0, 1025, false}, {-1, 2, 1, false}, {1, math.MinInt, math.MinInt, false},
	} {
		wantNew(t, c.lambda, c.k, c.q, c.ok)
	}
}

func TestNewAtEdges(t *testing.T) {
	edges := []int{math.MinInt, math.MinInt + 1, -1 << 32, -1025, -33, -1, 0, 1, 2, 3, 16, 31, 32, 33, 34, 64, 1023, 1024, 1025, 1026, 2048, 1<<16 + 1, 1 << 31, 1<<32 + 1, math.MaxInt - 1, math.MaxInt}
	for _, lambda := range edges {
		for _, k := range edges {
			for _, q := range edges {
				wantNew(t, lambda, k, q, 1 <= lambda && lambda <= 32 && 1 <= k && k <= 1024 && 1 <= q && q <= 1024 && k <= q)
			}
		}
	}
	for lambda := -40; lambda <= 80; lambda++ {
		wantNew(t, lambda, 3, 5, lambda > 0 && lambda < 33)
	}
	for q := -1100; q <= 2100; q++ {
		wantNew(t, 4, 1, q, q > 0 && q < 1025)
		wantNew(t, 4, q, q, q > 0 && q < 1025)
		wantNew(t, 4, q, 700, q > 0 && q < 701)
	}
}

// written is what a Write of n to p is to tell.
type written struct {
	p     Pace
	n     int
	want  Pace
	taken int
	fault error
}

func TestWrite(t *testing.T) {
	for _, c := range []written{
		// The chapter's example: two are held back, one waits, and there is no room for two more.
		{opened(2, 1, 1, 0, 0), 5, opened(2, 1, 1, 2, 1), 3, api.ErrFull},

		// None at all, also where there is no room.
		{opened(2, 1, 1, 0, 0), 0, opened(2, 1, 1, 0, 0), 0, nil},
		{opened(2, 1, 1, 2, 1), 0, opened(2, 1, 1, 2, 1), 0, nil},
		{opened(32, 1024, 1024, 32, 1024), 0, opened(32, 1024, 1024, 32, 1024), 0, nil},

		// Held back first, and waiting only once Lambda are.
		{opened(3, 2, 4, 0, 0), 1, opened(3, 2, 4, 1, 0), 1, nil},
		{opened(3, 2, 4, 0, 0), 2, opened(3, 2, 4, 2, 0), 2, nil},
		{opened(3, 2, 4, 0, 0), 3, opened(3, 2, 4, 3, 0), 3, nil},
		{opened(3, 2, 4, 0, 0), 4, opened(3, 2, 4, 3, 1), 4, nil},
		{opened(3, 2, 4, 0, 0), 6, opened(3, 2, 4, 3, 3), 6, nil},
		{opened(3, 2, 4, 0, 0), 7, opened(3, 2, 4, 3, 4), 7, nil},
		{opened(3, 2, 4, 0, 0), 8, opened(3, 2, 4, 3, 4), 7, api.ErrFull},
		{opened(3, 2, 4, 2, 0), 2, opened(3, 2, 4, 3, 1), 2, nil},
		{opened(3, 2, 4, 3, 1), 3, opened(3, 2, 4, 3, 4), 3, nil},
		{opened(3, 2, 4, 3, 1), 4, opened(3, 2, 4, 3, 4), 3, api.ErrFull},
		{opened(3, 2, 4, 3, 3), 1, opened(3, 2, 4, 3, 4), 1, nil},
		{opened(3, 2, 4, 3, 3), 2, opened(3, 2, 4, 3, 4), 1, api.ErrFull},
		{opened(3, 2, 4, 3, 4), 1, opened(3, 2, 4, 3, 4), 0, api.ErrFull},

		// Fewer than Lambda held back while some wait: no calls lead there, but it may be.
		{opened(3, 2, 4, 0, 4), 3, opened(3, 2, 4, 3, 4), 3, nil},
		{opened(3, 2, 4, 0, 4), 4, opened(3, 2, 4, 3, 4), 3, api.ErrFull},
		{opened(3, 2, 4, 1, 4), 1, opened(3, 2, 4, 2, 4), 1, nil},
		{opened(3, 2, 4, 1, 2), 3, opened(3, 2, 4, 3, 3), 3, nil},
		{opened(3, 2, 4, 1, 2), 9, opened(3, 2, 4, 3, 4), 4, api.ErrFull},

		// K has no part in it.
		{opened(2, 1, 4, 0, 0), 9, opened(2, 1, 4, 2, 4), 6, api.ErrFull},
		{opened(2, 4, 4, 0, 0), 9, opened(2, 4, 4, 2, 4), 6, api.ErrFull},
	} {
		wantWrite(t, c.p, c.n, c.want, c.taken, c.fault)
	}
}

func TestWriteAtEdges(t *testing.T) {
	for _, c := range []written{
		// The least pace, and the greatest.
		{opened(1, 1, 1, 0, 0), 1, opened(1, 1, 1, 1, 0), 1, nil},
		{opened(1, 1, 1, 0, 0), 2, opened(1, 1, 1, 1, 1), 2, nil},
		{opened(1, 1, 1, 0, 0), 3, opened(1, 1, 1, 1, 1), 2, api.ErrFull},
		{opened(1, 1, 1, 1, 0), 1, opened(1, 1, 1, 1, 1), 1, nil},
		{opened(1, 1, 1, 0, 1), 2, opened(1, 1, 1, 1, 1), 1, api.ErrFull},
		{opened(32, 1024, 1024, 0, 0), 32, opened(32, 1024, 1024, 32, 0), 32, nil},
		{opened(32, 1024, 1024, 0, 0), 1024, opened(32, 1024, 1024, 32, 992), 1024, nil},
		{opened(32, 1024, 1024, 0, 0), 1056, opened(32, 1024, 1024, 32, 1024), 1056, nil},
		{opened(32, 1024, 1024, 0, 0), 1057, opened(32, 1024, 1024, 32, 1024), 1056, api.ErrFull},
		{opened(32, 1024, 1024, 31, 1023), 2, opened(32, 1024, 1024, 32, 1024), 2, nil},
		{opened(32, 1024, 1024, 31, 1023), 3, opened(32, 1024, 1024, 32, 1024), 2, api.ErrFull},

		// Far more than there is room for.
		{opened(3, 2, 4, 1, 2), 1 << 31, opened(3, 2, 4, 3, 4), 4, api.ErrFull},
		{opened(3, 2, 4, 1, 2), 1<<32 + 1, opened(3, 2, 4, 3, 4), 4, api.ErrFull},
		{opened(3, 2, 4, 1, 2), math.MaxInt, opened(3, 2, 4, 3, 4), 4, api.ErrFull},
		{opened(32, 1024, 1024, 32, 1024), math.MaxInt, opened(32, 1024, 1024, 32, 1024), 0, api.ErrFull},
	} {
		wantWrite(t, c.p, c.n, c.want, c.taken, c.fault)
	}
}

// Below 0 none is taken, and the pace stays.
func TestWriteOfFewerThanNone(t *testing.T) {
	for _, p := range []Pace{
		opened(1, 1, 1, 0, 0), opened(1, 1, 1, 1, 1), opened(3, 2, 4, 0, 0), opened(3, 2, 4, 2, 0), opened(3, 2, 4, 3, 1), opened(3, 2, 4, 3, 4), opened(3, 2, 4, 1, 3),
		opened(32, 1024, 1024, 32, 1024),
	} {
		for _, n := range []int{-1, -2, -3, -4, -7, -1024, -1 << 31, -1 << 32, 1 - 1<<32, math.MinInt + 1, math.MinInt} {
			wantWrite(t, p, n, p, 0, api.ErrArg)
		}
	}
}

func TestWriteOfClosed(t *testing.T) {
	for _, p := range []Pace{
		closed(1, 1, 1, 0), closed(1, 1, 1, 2), closed(3, 2, 4, 0), closed(3, 2, 4, 1), closed(3, 2, 4, 4), closed(3, 2, 4, 7),
		closed(32, 1024, 1024, 0), closed(32, 1024, 1024, 1056),
	} {
		for _, n := range []int{0, 1, 2, 3, 9, 1057, 1 << 32, math.MaxInt} {
			wantWrite(t, p, n, p, 0, api.ErrClosed)
		}
	}
}

// R1: where both apply, ErrArg is named first.
func TestClosedIsToldBehindArg(t *testing.T) {
	for _, p := range []Pace{closed(1, 1, 1, 0), closed(3, 2, 4, 7), closed(32, 1024, 1024, 1056)} {
		for _, n := range []int{-1, -2, math.MinInt} {
			wantWrite(t, p, n, p, 0, api.ErrArg)
		}
	}
}

// P13.2, as is the next one.
func TestTick(t *testing.T) {
	for _, c := range []struct {
		p, want Pace
		told    int
	}{
		// None waits: what is held back stays.
		{opened(2, 1, 1, 0, 0), opened(2, 1, 1, 0, 0), 0},
		{opened(3, 2, 4, 2, 0), opened(3, 2, 4, 2, 0), 0},
		{opened(3, 2, 4, 3, 0), opened(3, 2, 4, 3, 0), 0},
		{closed(3, 2, 4, 0), closed(3, 2, 4, 0), 0},

		// Fewer than K, as many, and more.
		{opened(3, 2, 4, 3, 1), opened(3, 2, 4, 3, 0), 1},
		{opened(3, 2, 4, 3, 2), opened(3, 2, 4, 3, 0), 2},
		{opened(3, 2, 4, 3, 3), opened(3, 2, 4, 3, 1), 2},
		{opened(3, 2, 4, 3, 4), opened(3, 2, 4, 3, 2), 2},
		{opened(3, 4, 4, 3, 4), opened(3, 4, 4, 3, 0), 4},
		{opened(3, 1, 4, 3, 4), opened(3, 1, 4, 3, 3), 1},
		{opened(3, 2, 4, 0, 3), opened(3, 2, 4, 0, 1), 2},

		// Closed, what waits may be more than Q.
		{closed(3, 2, 4, 7), closed(3, 2, 4, 5), 2},
		{closed(3, 4, 4, 7), closed(3, 4, 4, 3), 4},
		{closed(3, 2, 4, 2), closed(3, 2, 4, 0), 2},
		{closed(3, 2, 4, 1), closed(3, 2, 4, 0), 1},

		{opened(1, 1, 1, 1, 1), opened(1, 1, 1, 1, 0), 1},
		{closed(1, 1, 1, 2), closed(1, 1, 1, 1), 1},
		{opened(32, 1024, 1024, 32, 1024), opened(32, 1024, 1024, 32, 0), 1024},
		{opened(32, 1023, 1024, 32, 1024), opened(32, 1023, 1024, 32, 1), 1023},
		{closed(32, 1024, 1024, 1056), closed(32, 1024, 1024, 32), 1024},
		{closed(32, 1, 1024, 1056), closed(32, 1, 1024, 1055), 1},
	} {
		wantTick(t, c.p, c.want, c.told)
	}
}

func TestClose(t *testing.T) {
	for _, c := range []struct {
		p, want Pace
		fault   error
	}{
		{opened(2, 1, 1, 0, 0), closed(2, 1, 1, 0), nil},
		{opened(3, 2, 4, 1, 0), closed(3, 2, 4, 1), nil},
		{opened(3, 2, 4, 3, 0), closed(3, 2, 4, 3), nil},
		{opened(3, 2, 4, 3, 1), closed(3, 2, 4, 4), nil},
		{opened(3, 2, 4, 3, 4), closed(3, 2, 4, 7), nil},
		{opened(3, 2, 4, 0, 4), closed(3, 2, 4, 4), nil},
		{opened(3, 2, 4, 1, 3), closed(3, 2, 4, 4), nil},
		{opened(1, 1, 1, 1, 1), closed(1, 1, 1, 2), nil},
		{opened(32, 1024, 1024, 32, 1024), closed(32, 1024, 1024, 1056), nil},

		{closed(2, 1, 1, 0), closed(2, 1, 1, 0), api.ErrClosed},
		{closed(3, 2, 4, 1), closed(3, 2, 4, 1), api.ErrClosed},
		{closed(3, 2, 4, 7), closed(3, 2, 4, 7), api.ErrClosed},
		{closed(32, 1024, 1024, 1056), closed(32, 1024, 1024, 1056), api.ErrClosed},
	} {
		wantClose(t, c.p, c.want, c.fault)
	}
}

// P13.3: the ticks behind Close, by how many wait then.
func TestTicksBehindClose(t *testing.T) {
	for _, c := range []struct {
		p    Pace
		want []int
	}{
		{opened(3, 2, 4, 0, 0), nil},
		{opened(3, 2, 4, 1, 0), []int{1}},
		{opened(3, 2, 4, 2, 0), []int{2}},
		{opened(3, 2, 4, 3, 0), []int{2, 1}},
		{opened(3, 2, 4, 3, 1), []int{2, 2}},
		{opened(3, 2, 4, 3, 4), []int{2, 2, 2, 1}},
		{opened(3, 1, 4, 3, 2), []int{1, 1, 1, 1, 1}},
		{opened(3, 4, 4, 3, 1), []int{4}},
		{opened(3, 4, 4, 3, 2), []int{4, 1}},
		{opened(32, 1024, 1024, 32, 992), []int{1024}},
		{opened(32, 1024, 1024, 32, 993), []int{1024, 1}},
		{opened(32, 500, 1024, 32, 1024), []int{500, 500, 56}},
	} {
		p, err := c.p.Close()
		if err != nil {
			t.Fatal(c.p, err)
		}
		left := p.Queue
		for i, told := range c.want {
			if left < 1 {
				t.Errorf("%+v is empty ahead of tick %d", c.p, i)
			}
			left -= told
			wantTick(t, p, closed(c.p.Lambda, c.p.K, c.p.Q, left), told)
			p, _ = p.Tick()
		}
		wantTick(t, p, closed(c.p.Lambda, c.p.K, c.p.Q, 0), 0)
	}
}
