package pace

import (
	"math"
	"math/rand/v2"
	"testing"

	"snaffle/api"
)

// stream is a pace by the chapter's words, with the bytes themselves: each is its number among all that were taken.
type stream struct {
	lambda, k, q int
	held, waits  []int
	taken        int
	closed       bool
}

// streamOf tells a stream that stands as a pace does.
func streamOf(p Pace) *stream {
	s := &stream{lambda: p.Lambda, k: p.K, q: p.Q, closed: p.Closed}
	for range p.Queue {
		s.waits = append(s.waits, s.taken)
		s.taken++
	}
	for range p.Ring {
		s.held = append(s.held, s.taken)
		s.taken++
	}
	return s
}

func (s *stream) pace() Pace {
	return Pace{Lambda: s.lambda, K: s.k, Q: s.q, Ring: len(s.held), Queue: len(s.waits), Closed: s.closed}
}

// take tells whether one more byte is taken.
func (s *stream) take() bool {
	if len(s.held) >= s.lambda {
		if len(s.waits) >= s.q {
			return false
		}
		s.waits = append(s.waits, s.held[0])
		s.held = s.held[1:]
	}
	s.held = append(s.held, s.taken)
	s.taken++
	return true
}

func (s *stream) write(n int) (int, error) {
	if n < 0 {
		return 0, api.ErrArg
	}
	if s.closed {
		return 0, api.ErrClosed
	}
	for i := range n {
		if !s.take() {
			return i, api.ErrFull
		}
	}
	return n, nil
}

// tick tells the bytes that wait no more.
func (s *stream) tick() []int {
	n := s.k
	if len(s.waits) < n {
		n = len(s.waits)
	}
	told := s.waits[:n]
	s.waits = s.waits[n:]
	return told
}

func (s *stream) close() error {
	if s.closed {
		return api.ErrClosed
	}
	s.waits = append(s.waits, s.held...)
	s.held = nil
	s.closed = true
	return nil
}

// mayBe tells whether a pace may be, by the chapter's words.
func mayBe(p Pace) bool {
	if p.Lambda < 1 || p.Lambda > 32 || p.K < 1 || p.K > 1024 || p.Q < 1 || p.Q > 1024 || p.K > p.Q {
		return false
	}
	if p.Closed {
		return p.Ring == 0 && p.Queue >= 0 && p.Queue <= p.Q+p.Lambda
	}
	return p.Ring >= 0 && p.Ring <= p.Lambda && p.Queue >= 0 && p.Queue <= p.Q
}

// standing goes through all paces of a Lambda, a K and a Q.
func standing(lambda, k, q int, do func(Pace)) {
	for queue := 0; queue <= q; queue++ {
		for ring := 0; ring <= lambda; ring++ {
			do(opened(lambda, k, q, ring, queue))
		}
	}
	for queue := 0; queue <= q+lambda; queue++ {
		do(closed(lambda, k, q, queue))
	}
}

// P13.1 and P13.2: all small paces, against the chapter's words.
func TestAllSmallPaces(t *testing.T) {
	small := func(p Pace) {
		for n := -3; n <= p.Lambda+p.Q+3; n++ {
			s := streamOf(p)
			taken, err := s.write(n)
			wantWrite(t, p, n, s.pace(), taken, err)
			if !mayBe(s.pace()) {
				t.Errorf("%+v may not be", s.pace())
			}
		}
		s := streamOf(p)
		told := s.tick()
		wantTick(t, p, s.pace(), len(told))
		s = streamOf(p)
		err := s.close()
		wantClose(t, p, s.pace(), err)
	}
	for lambda := 1; lambda <= 6; lambda++ {
		for q := 1; q <= 6; q++ {
			for k := 1; k <= q; k++ {
				standing(lambda, k, q, small)
			}
		}
	}
}

// P13.1 and P13.2: all standings of the greatest paces, and of those that are great in one alone.
func TestGreatPaces(t *testing.T) {
	great := func(p Pace) {
		room := p.Lambda - p.Ring + p.Q - p.Queue
		full := opened(p.Lambda, p.K, p.Q, p.Lambda, p.Q)
		for _, n := range []int{-1, 0, 1, p.Lambda - p.Ring, p.Lambda - p.Ring + 1, room - 1, room, room + 1, 1 << 31, 1<<32 + 1, math.MaxInt} {
			switch {
			case n < 0:
				wantWrite(t, p, n, p, 0, api.ErrArg)
			case p.Closed:
				wantWrite(t, p, n, p, 0, api.ErrClosed)
			case n > room:
				wantWrite(t, p, n, full, room, api.ErrFull)
			case n <= p.Lambda-p.Ring:
				wantWrite(t, p, n, opened(p.Lambda, p.K, p.Q, p.Ring+n, p.Queue), n, nil)
			default:
				wantWrite(t, p, n, opened(p.Lambda, p.K, p.Q, p.Lambda, p.Ring+p.Queue+n-p.Lambda), n, nil)
			}
		}
		told := p.K
		if p.Queue < told {
			told = p.Queue
		}
		ticked := p
		ticked.Queue -= told
		wantTick(t, p, ticked, told)
		if p.Closed {
			wantClose(t, p, p, api.ErrClosed)
		} else {
			wantClose(t, p, closed(p.Lambda, p.K, p.Q, p.Ring+p.Queue), nil)
		}
	}
	for _, c := range [][3]int{{32, 1024, 1024}, {32, 1, 1024}, {1, 7, 1024}, {32, 1, 1}, {31, 500, 1023}} {
		standing(c[0], c[1], c[2], great)
	}
}

// P13.1: in two parts as many are taken as at once.
func TestWriteInParts(t *testing.T) {
	parts := func(p Pace) {
		for a := 0; a <= p.Lambda+p.Q+2; a++ {
			for b := 0; b <= p.Lambda+p.Q+2; b++ {
				mid, first, fault := p.Write(a)
				end, second, err := mid.Write(b)
				if err == nil {
					err = fault
				}
				if !p.Closed {
					wantWrite(t, p, a+b, end, first+second, err)
				} else if end != p || first+second != 0 {
					t.Errorf("%+v took %d and %d", p, first, second)
				}
			}
		}
	}
	for lambda := 1; lambda <= 4; lambda++ {
		for q := 1; q <= 4; q++ {
			standing(lambda, q, q, parts)
		}
	}
}

// some tells a number of bytes: often few, often as many as there is room for, or nearly so.
func some(dice *rand.Rand, p Pace) int {
	switch dice.IntN(6) {
	case 0:
		return -dice.IntN(3)
	case 1:
		return p.Lambda - p.Ring + p.Q - p.Queue + dice.IntN(3) - 1
	case 2:
		return dice.IntN(p.Lambda + p.Q + 2)
	}
	return dice.IntN(p.K + 2)
}

// talk is a pace, and the stream that it is held against, call by call.
type talk struct {
	p    Pace
	s    *stream
	told int
	seen [4]int // full, closed by then, ticks of fewer than K, ticks of K
}

func (c *talk) close(t *testing.T) {
	t.Helper()
	ahead := c.p
	fault := c.s.close()
	wantClose(t, ahead, c.s.pace(), fault)
	c.p, _ = ahead.Close()
	if fault != nil {
		c.seen[1]++
	}
}

func (c *talk) tick(t *testing.T) {
	t.Helper()
	ahead := c.p
	bytes := c.s.tick()
	wantTick(t, ahead, c.s.pace(), len(bytes))
	c.p, _ = ahead.Tick()
	for _, b := range bytes {
		if b != c.told {
			t.Fatalf("byte %d was told where byte %d was to be", b, c.told)
		}
		c.told++
	}
	if len(bytes) < c.p.K {
		c.seen[2]++
	} else {
		c.seen[3]++
	}
}

func (c *talk) write(t *testing.T, n int) {
	t.Helper()
	ahead := c.p
	taken, fault := c.s.write(n)
	wantWrite(t, ahead, n, c.s.pace(), taken, fault)
	c.p, _, _ = ahead.Write(n)
	switch fault {
	case api.ErrFull:
		c.seen[0]++
	case api.ErrClosed:
		c.seen[1]++
	}
}

// P13.1 to P13.3: made calls, each against the chapter's words and against all that was taken.
func TestMadeCalls(t *testing.T) {
	dice := rand.New(rand.NewPCG(13, 1))
	var seen [4]int
	for range 1500 {
		q := 1 + dice.IntN(1<<dice.IntN(11))
		p, err := New(1+dice.IntN(32), 1+dice.IntN(q), q)
		if err != nil {
			t.Fatal(err)
		}
		c := &talk{p: p, s: streamOf(p), seen: seen}
		for range 60 {
			switch die := dice.IntN(40); {
			case die == 0:
				c.close(t)
			case die < 16:
				c.tick(t)
			default:
				c.write(t, some(dice, c.p))
			}
			wantHeld(t, c.p, c.s.taken, c.told)
		}
		wantEmpty(t, c.p)
		seen = c.seen
	}
	for i, n := range seen {
		if n < 1000 {
			t.Error("too few of kind", i, n)
		}
	}
}

// wantHeld holds a pace against how many bytes were taken, and told: of those taken the last Lambda are held back, or all, if they are fewer.
func wantHeld(t *testing.T, p Pace, taken, told int) {
	t.Helper()
	ring := p.Lambda
	if taken < ring {
		ring = taken
	}
	if p.Closed {
		ring = 0
	}
	if p.Ring != ring || p.Queue != taken-told-ring || !mayBe(p) {
		t.Fatalf("%+v: %d were taken, %d told", p, taken, told)
	}
}

// wantEmpty closes a pace, and holds against P13.3 how many ticks empty it.
func wantEmpty(t *testing.T, p Pace) {
	t.Helper()
	if !p.Closed {
		p, _ = p.Close()
	}
	want := p.Queue / p.K
	if p.Queue%p.K != 0 {
		want++
	}
	ticks := 0
	for p.Queue > 0 && ticks <= want {
		p, _ = p.Tick()
		ticks++
	}
	if ticks != want || p.Queue != 0 {
		t.Fatalf("%d ticks, not %d: %+v", ticks, want, p)
	}
}

// P13.3: the ticks that empty each pace that may be of some, closed wherever it stands.
func TestTicksThatEmpty(t *testing.T) {
	for _, c := range [][3]int{{1, 1, 1}, {3, 2, 4}, {5, 5, 5}, {32, 7, 100}, {32, 64, 64}, {32, 1024, 1024}, {9, 1000, 1024}, {16, 16, 33}} {
		standing(c[0], c[1], c[2], func(p Pace) { wantEmpty(t, p) })
	}
}

// P13.3: while it is open, no number of ticks brings out what is held back.
func TestHeldStaysWhileOpen(t *testing.T) {
	for lambda := 1; lambda <= api.MaxLambda; lambda++ {
		for n := 0; n <= 2*lambda; n++ {
			p, err := New(lambda, 3, 40)
			if err != nil {
				t.Fatal(err)
			}
			p, taken, err := p.Write(n)
			if taken != n || err != nil {
				t.Fatal(p, taken, err)
			}
			told := 0
			for range 30 {
				var k int
				p, k = p.Tick()
				told += k
			}
			wantHeld(t, p, n, told)
			if p.Queue != 0 {
				t.Errorf("%+v: some wait behind 30 ticks", p)
			}
		}
	}
}
