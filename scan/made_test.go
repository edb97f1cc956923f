package scan

import (
	"bytes"
	"fmt"
	"math/rand/v2"
	"slices"
	"strings"
	"testing"

	"snaffle/api"
	"snaffle/ct"
	"snaffle/luhn"
	"snaffle/macro"
	"snaffle/mask"
	"snaffle/moore"
	"snaffle/table"
)

// model is an engine by the chapter's words: it keeps all that was pushed, and lists.
type model struct {
	m             moore.Machine
	lambda, q     int
	hide          byte
	all           []byte
	hidden        []bool
	held, waiting []int // which ones of all
	drained       bool
}

func (o *model) push(b byte) error {
	if o.drained {
		return api.ErrClosed
	}
	if len(o.held) == o.lambda {
		if len(o.waiting) == o.q {
			return api.ErrFull
		}
		o.waiting, o.held = append(o.waiting, o.held[0]), o.held[1:]
	}
	o.held = append(o.held, len(o.all))
	o.all, o.hidden = append(o.all, b), append(o.hidden, false)
	out := moore.Run(o.m, o.all)
	for l := 1; l <= min(o.lambda, len(o.all)); l++ {
		from := len(o.all) - l
		if out.Plain>>l&1 == 1 || out.Luhn>>l&1 == 1 && luhn.Ok(o.all[from:]) {
			for i := range l {
				o.hidden[from+i] = true
			}
		}
	}
	return nil
}

func (o *model) drain() error {
	if o.drained {
		return api.ErrClosed
	}
	o.waiting, o.held, o.drained = append(o.waiting, o.held...), nil, true
	return nil
}

func (o *model) release() (byte, error) {
	if len(o.waiting) == 0 {
		return 0, api.ErrArg
	}
	i := o.waiting[0]
	o.waiting = o.waiting[1:]
	if o.hidden[i] {
		return o.hide, nil
	}
	return o.all[i], nil
}

var parts = []string{"a", "b", "[ab]", "a?", "(ab|b)", "\\d", "\\d{2,3}", "\\d?", "[1-9]", "-", "-?", "(a|1|-){1,3}", "[^a]", "\\d{4}", "(\\d-?){2,5}"}

// texts throws rules of these parts, each with the check, or not.
func texts(dice *rand.Rand, many, long int) []string {
	var l []string
	for range many {
		text := strings.Repeat("#", dice.IntN(2))
		for range 1 + dice.IntN(long) {
			text += parts[dice.IntN(len(parts))]
		}
		l = append(l, text)
	}
	return l
}

// thrown tells a machine of thrown rules, these, and lambda.
func thrown(t *testing.T, dice *rand.Rand) (moore.Machine, []string, int) {
	t.Helper()
	for {
		l, lambda := texts(dice, dice.IntN(4), 4), 1+dice.IntN(12)
		if dice.IntN(5) == 0 {
			lambda = 1 + dice.IntN(32)
		}
		if m, err := table.Build(written(t, l...), lambda, 120); err == nil {
			return m, l, lambda
		}
	}
}

// bytesOf throws bytes that the rules are of, most of them.
func bytesOf(dice *rand.Rand, n int) []byte {
	var l []byte
	for range n {
		b := "aaabb0123456789--18"[dice.IntN(19)]
		if dice.IntN(15) == 0 {
			b = byte(dice.IntN(256))
		}
		l = append(l, b)
	}
	return l
}

// calls throws calls: p, d, r.
func calls(dice *rand.Rand, n int) string {
	l := ""
	eager := dice.IntN(4)
	for range n {
		switch k := dice.IntN(100); {
		case k < 55:
			l += "p"
		case k < 99 && dice.IntN(8) >= eager:
			l += "r"
		case k >= 99 && dice.IntN(3) == 0:
			l += "d"
		default:
			l += "p"
		}
	}
	if dice.IntN(2) == 0 {
		l += "d" + strings.Repeat("r", n)
	}
	return l
}

// wantSame does a call on an engine and on the model, and wants the same of both; if usual, which is how many instructions a Push
// has, isn't below 0, it wants as many instructions as the chapter has it, too.
func wantSame(t *testing.T, name string, e *Engine, o *model, kind rune, b byte, usual int) {
	t.Helper()
	var got, want byte
	var err, errWanted error
	many := 0
	waiting, held := len(o.waiting), len(o.held)
	switch kind {
	case 'p':
		err, errWanted = e.Push(b), o.push(b)
		many = usual + len(o.waiting) - waiting
	case 'd':
		err, errWanted = e.Drain(), o.drain()
		many = held
	default:
		got, err = e.Release()
		want, errWanted = o.release()
		many = 1
	}
	if errWanted != nil {
		wantError(t, name, err, errWanted.(api.Code))
		many = 0
	} else if err != nil {
		t.Fatalf("%s: %v", name, err)
	}
	if got != want {
		t.Fatalf("%s: %q is told, not %q", name, got, want)
	}
	wantHeld(t, name, e, len(o.held), len(o.waiting))
	if usual < 0 {
		return
	}
	if l := e.Trace(); len(l) != many {
		t.Fatalf("%s: %d instructions, not %d", name, len(l), many)
	}
}

// P17.1, P17.2: made rules, and made calls.
func TestMadeCalls(t *testing.T) {
	dice := rand.New(rand.NewPCG(17, 1))
	hidden, shown, full, drained := 0, 0, 0, 0
	for range 500 {
		m, l, lambda := thrown(t, dice)
		q, hide := 1+dice.IntN(6), byte(dice.IntN(256))
		e := New(m, lambda, q, hide)
		o := &model{m: m, lambda: lambda, q: q, hide: hide}
		script := calls(dice, 80)
		x := bytesOf(dice, len(script))
		for i, kind := range script {
			name := fmt.Sprintf("%q, lambda %d, q %d, mask %d, %s of %q", l, lambda, q, hide, script[:i+1], x[:i+1])
			wantSame(t, name, e, o, kind, x[i], -1)
			if len(o.held) == lambda && len(o.waiting) == q {
				full++
			}
		}
		for _, h := range o.hidden {
			if h {
				hidden++
			} else {
				shown++
			}
		}
		if o.drained {
			drained++
		}
	}
	if hidden < 1500 || shown < 3000 || full < 500 || drained < 100 {
		t.Errorf("of too few kinds: %d bytes hidden, %d not, %d times full, %d drained", hidden, shown, full, drained)
	}
}

// P17.3: made rules and calls, with two lists of bytes: the traces are the same behind each call, and as long as told.
func TestMadeTraces(t *testing.T) {
	dice := rand.New(rand.NewPCG(17, 2))
	apart := 0
	for range 100 {
		m, l, lambda := thrown(t, dice)
		q := 1 + dice.IntN(6)
		one, other, third := New(m, lambda, q, '*'), New(m, lambda, q, '*'), New(m, lambda, q, '*')
		o := &model{m: m, lambda: lambda, q: q, hide: '*'}
		third.Push(0)
		usual := len(third.Trace())
		script := calls(dice, 40)
		x, y := bytesOf(dice, len(script)), bytesOf(dice, len(script))
		third = New(m, lambda, q, '*')
		var told []api.Insn
		for i, kind := range script {
			name := fmt.Sprintf("%q, lambda %d, q %d, %s of %q", l, lambda, q, script[:i+1], x[:i+1])
			var a, b byte
			switch kind {
			case 'p':
				one.Push(x[i])
				other.Push(y[i])
			case 'd':
				one.Drain()
				other.Drain()
			default:
				a, _ = one.Release()
				b, _ = other.Release()
			}
			if a != b {
				apart++
			}
			trace := one.Trace()
			if !slices.Equal(trace, other.Trace()) {
				t.Fatalf("%s, and of %q: not the same traces", name, y[:i+1])
			}
			told = append(told, trace...)
			// The third one's trace is asked for within, and its calls are counted.
			wantSame(t, name, third, o, kind, y[i], usual)
		}
		whole := New(m, lambda, q, '*')
		for i, kind := range script {
			switch kind {
			case 'p':
				whole.Push(y[len(y)-1-i])
			case 'd':
				whole.Drain()
			default:
				whole.Release()
			}
		}
		if !slices.Equal(whole.Trace(), told) {
			t.Fatalf("%q, lambda %d, q %d, %s: another trace, told at the end", l, lambda, q, script)
		}
	}
	if apart < 500 {
		t.Errorf("only %d times were other bytes told", apart)
	}
}

// P17.3: the trace is what was done: another machine of cells that does it, with the bytes that came in, tells the same.
func TestTraceIsWhatWasDone(t *testing.T) {
	dice := rand.New(rand.NewPCG(17, 3))
	for range 150 {
		m, l, lambda := thrown(t, dice)
		q := 1 + dice.IntN(6)
		e := New(m, lambda, q, '*')
		cells := ct.New(256 + len(m.Next)*m.Classes + 2*len(m.Next) + 3*lambda + q + 64)
		if _, err := macro.Run(cells, e.now.load(m, '*')); err != nil {
			t.Fatal(err)
		}
		script := calls(dice, 60)
		x := bytesOf(dice, len(script))
		var in, out []byte
		for i, kind := range script {
			switch kind {
			case 'p':
				if e.Push(x[i]) == nil {
					in = append(in, x[i])
				}
			case 'd':
				e.Drain()
			default:
				if b, err := e.Release(); err == nil {
					out = append(out, b)
				}
			}
		}
		trace := e.Trace()
		for i := range trace {
			if trace[i].Op == api.In {
				trace[i].N, in = uint64(in[0]), in[1:]
			}
		}
		told, err := macro.Run(cells, trace)
		if err != nil || len(in) != 0 || len(told) != len(out) {
			t.Fatalf("%q, lambda %d, q %d, %s: %v, %d bytes not in, %d told, not %d", l, lambda, q, script, err, len(in), len(told), len(out))
		}
		for i, v := range told {
			if v != uint64(out[i]) {
				t.Fatalf("%q, lambda %d, q %d, %s of %q: %d is told, not %d", l, lambda, q, script, x, v, out[i])
			}
		}
	}
}

// P17.5: made rules, held against layer 9.
func TestMadeMasks(t *testing.T) {
	dice := rand.New(rand.NewPCG(17, 4))
	hidden, shown := 0, 0
	for range 500 {
		m, l, lambda := thrown(t, dice)
		q, hide := 1+dice.IntN(70), byte(dice.IntN(256))
		e := New(m, lambda, q, hide)
		x := bytesOf(dice, dice.IntN(80))
		want := mask.Mask(written(t, l...), lambda, hide, x)
		var got []byte
		for i, b := range x {
			if e.Push(b) != nil || dice.IntN(5) == 0 {
				got = append(got, released(t, e)...)
			}
			if held, waiting := e.Held(); held+waiting+len(got) == i {
				pushAll(t, e, string(x[i:i+1]))
			}
			if !bytes.HasPrefix(want, got) {
				t.Fatalf("%q, lambda %d, q %d, mask %d, %q: %q, and not %q", l, lambda, q, hide, x[:i+1], got, want)
			}
		}
		e.Drain()
		if got = append(got, released(t, e)...); !bytes.Equal(want, got) {
			t.Fatalf("%q, lambda %d, q %d, mask %d, %q: %q, and not %q", l, lambda, q, hide, x, got, want)
		}
		for _, covered := range mask.Cover(written(t, l...), lambda, x) {
			if covered {
				hidden++
			} else {
				shown++
			}
		}
	}
	if hidden < 3000 || shown < 3000 {
		t.Errorf("of too few kinds: %d bytes hidden, %d not", hidden, shown)
	}
}
