package set

import (
	"bytes"
	"testing"

	"snaffle/api"
)

// where builds a set straight from the chapter's words, so that the tests lean on no call they test.
func where(has func(b int) bool) api.Set {
	var s api.Set
	for b := range 256 {
		if has(b) {
			s[b/64] += 1 << (b % 64)
		}
	}
	return s
}

// samples are sets of all shapes: none, all, one byte each, words alone, and mixed ones.
func samples() []api.Set {
	all := ^uint64(0)
	l := []api.Set{
		{}, {all, all, all, all},
		{all, 0, 0, 0}, {0, all, 0, 0}, {0, 0, all, 0}, {0, 0, 0, all},
		{1 | 1<<63, 1, 0, 1 << 63},
	}
	for one := range 256 {
		l = append(l, where(func(b int) bool { return b == one }))
	}
	x := uint64(1)
	for range 50 {
		var s api.Set
		for i := range s {
			x = x*6364136223846793005 + 1442695040888963407
			s[i] = x ^ x>>29
		}
		l = append(l, s)
	}
	return l
}

// P1.1, as are all up to TestCountEdges.
func TestOf(t *testing.T) {
	every := make([]byte, 512)
	for i := range every {
		every[i] = byte(i)
	}
	all := ^uint64(0)
	for _, c := range []struct {
		b    []byte
		want api.Set
	}{
		{nil, api.Set{}},
		{[]byte{}, api.Set{}},
		{[]byte{0}, api.Set{1, 0, 0, 0}},
		{[]byte{63}, api.Set{1 << 63, 0, 0, 0}},
		{[]byte{64}, api.Set{0, 1, 0, 0}},
		{[]byte{127, 128}, api.Set{0, 1 << 63, 1, 0}},
		{[]byte{191, 192}, api.Set{0, 0, 1 << 63, 1}},
		{[]byte{255}, api.Set{0, 0, 0, 1 << 63}},
		{[]byte{7, 7}, api.Set{1 << 7, 0, 0, 0}},
		{[]byte{255, 64, 0, 63, 64, 0}, api.Set{1 | 1<<63, 1, 0, 1 << 63}},
		{[]byte("ba"), api.Set{0, 3 << 33, 0, 0}},
		{every, api.Set{all, all, all, all}},
	} {
		if got := Of(c.b); got != c.want {
			t.Errorf("Of(%v) is %x, not %x", c.b, got, c.want)
		}
	}
}

func TestRange(t *testing.T) {
	for lo := range 256 {
		for hi := range 256 {
			want := where(func(b int) bool { return lo <= b && b <= hi })
			if got := Range(byte(lo), byte(hi)); got != want {
				t.Fatalf("Range(%d, %d) is %x, not %x", lo, hi, got, want)
			}
		}
	}
}

func TestRangeEdges(t *testing.T) {
	all := ^uint64(0)
	for _, c := range []struct {
		lo, hi byte
		want   api.Set
	}{
		{0, 255, api.Set{all, all, all, all}},
		{0, 0, api.Set{1, 0, 0, 0}},
		{255, 255, api.Set{0, 0, 0, 1 << 63}},
		{63, 64, api.Set{1 << 63, 1, 0, 0}},
		{64, 63, api.Set{}},
		{255, 0, api.Set{}},
		{'a', 'c', api.Set{0, 7 << 33, 0, 0}},
	} {
		if got := Range(c.lo, c.hi); got != c.want {
			t.Errorf("Range(%d, %d) is %x, not %x", c.lo, c.hi, got, c.want)
		}
	}
}

func TestHas(t *testing.T) {
	for _, s := range samples() {
		for b := range 256 {
			want := s[b/64]&(1<<(b%64)) != 0
			if got := Has(s, byte(b)); got != want {
				t.Fatalf("Has(%x, %d) is %v", s, b, got)
			}
		}
	}
}

func TestOr(t *testing.T) {
	l := samples()
	for _, s := range l {
		for _, u := range l {
			want := api.Set{s[0] | u[0], s[1] | u[1], s[2] | u[2], s[3] | u[3]}
			if got := Or(s, u); got != want {
				t.Fatalf("Or(%x, %x) is %x", s, u, got)
			}
		}
	}
}

func TestNot(t *testing.T) {
	for _, s := range samples() {
		want := where(func(b int) bool { return s[b/64]&(1<<(b%64)) == 0 })
		if got := Not(s); got != want {
			t.Fatalf("Not(%x) is %x", s, got)
		}
	}
}

func TestCountAndBytes(t *testing.T) {
	for _, s := range samples() {
		var want []byte
		for b := range 256 {
			if s[b/64]&(1<<(b%64)) != 0 {
				want = append(want, byte(b))
			}
		}
		if got := Count(s); got != len(want) {
			t.Fatalf("Count(%x) is %d, not %d", s, got, len(want))
		}
		if got := Bytes(s); !bytes.Equal(got, want) {
			t.Fatalf("Bytes(%x) is %v, not %v", s, got, want)
		}
	}
}

func TestCountEdges(t *testing.T) {
	for _, c := range []struct {
		s    api.Set
		want int
	}{
		{api.Set{}, 0},
		{Range('a', 'c'), 3},
		{Range(9, 9), 1},
		{Range(0, 255), 256},
		{Of([]byte{5, 5, 5}), 1},
	} {
		if got := Count(c.s); got != c.want {
			t.Errorf("Count(%x) is %d, not %d", c.s, got, c.want)
		}
	}
}

// P1.2, as are the two behind it.
func TestOfLeavesAndForgetsItsBytes(t *testing.T) {
	room := []byte{9, 255, 0, 64, 64, 63, 9}
	b := room[1:6]
	s := Of(b)
	if !bytes.Equal(room, []byte{9, 255, 0, 64, 64, 63, 9}) {
		t.Error("Of changed what it was handed:", room)
	}
	for i := range room {
		room[i] = 1
	}
	if s != (api.Set{1 | 1<<63, 1, 0, 1 << 63}) || Of([]byte{1}) != (api.Set{2, 0, 0, 0}) {
		t.Error("Of kept what it was handed:", s)
	}
}

func TestBytesAreNewMemory(t *testing.T) {
	for _, s := range samples() {
		was := s
		one, two := Bytes(s), Bytes(s)
		want := bytes.Clone(two)
		one = one[:cap(one)]
		for i := range one {
			one[i] ^= 255
		}
		if s != was || !bytes.Equal(two, want) || !bytes.Equal(Bytes(s), want) {
			t.Fatalf("Bytes(%x) shares memory", was)
		}
	}
}

func TestSetsHandedInStay(t *testing.T) {
	for _, s := range samples() {
		u := api.Set{1 << 63, 2, ^uint64(0), 5}
		s0, u0 := s, u
		Has(s, 64)
		Or(s, u)
		Not(s)
		Count(s)
		Bytes(s)
		if s != s0 || u != u0 {
			t.Fatalf("a set that was handed in is changed: %x, %x", s0, s)
		}
	}
}

// P1.3, as is the one behind it.
func TestOfAndBytesAreEachOthers(t *testing.T) {
	for _, s := range samples() {
		if got := Of(Bytes(s)); got != s {
			t.Fatalf("Of of Bytes of %x is %x", s, got)
		}
	}
	for _, c := range []struct{ b, want []byte }{
		{nil, nil},
		{[]byte{255, 64, 63, 0}, []byte{0, 63, 64, 255}},
		{[]byte{3, 1, 3, 2, 1}, []byte{1, 2, 3}},
	} {
		if got := Bytes(Of(c.b)); !bytes.Equal(got, c.want) {
			t.Errorf("Bytes of Of(%v) is %v", c.b, got)
		}
	}
}

func TestNotOfNotIsTheSet(t *testing.T) {
	for _, s := range samples() {
		if got := Not(Not(s)); got != s {
			t.Fatalf("Not of Not of %x is %x", s, got)
		}
		if Count(s)+Count(Not(s)) != 256 || Or(s, Not(s)) != Range(0, 255) {
			t.Fatalf("%x and Not of it aren't all bytes", s)
		}
	}
}
