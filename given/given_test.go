// Package given pins what the layers share: the calls that the chapters list, and api's numbers.
package given

import (
	"errors"
	"testing"

	"snaffle/api"
	"snaffle/classes"
	"snaffle/ct"
	"snaffle/dlp"
	"snaffle/lang"
	"snaffle/least"
	"snaffle/luhn"
	"snaffle/macro"
	"snaffle/mask"
	"snaffle/moore"
	"snaffle/nfa"
	"snaffle/pace"
	"snaffle/pack"
	"snaffle/rate"
	"snaffle/rules"
	"snaffle/rx"
	"snaffle/scan"
	"snaffle/script"
	"snaffle/set"
	"snaffle/table"
	"snaffle/verdict"
)

// A call with another signature doesn't compile here.
var (
	_ func([]byte) api.Set           = set.Of
	_ func(byte, byte) api.Set       = set.Range
	_ func(api.Set, byte) bool       = set.Has
	_ func(api.Set, api.Set) api.Set = set.Or
	_ func(api.Set) api.Set          = set.Not
	_ func(api.Set) int              = set.Count
	_ func(api.Set) []byte           = set.Bytes

	_ func(string) (api.Node, error) = rx.Parse

	_ func(api.Node, []byte) bool = lang.Has
	_ func(api.Node) int          = lang.Least
	_ func(api.Node) int          = lang.Most
	_ func(api.Node) api.Set      = lang.Any

	_ func(api.Node) (nfa.Nfa, error) = nfa.Build
	_ func(nfa.Nfa, []byte) bool      = nfa.Has

	_ func([]api.Set) ([256]int, int) = classes.Of

	_ func([]nfa.Nfa, []bool, int, int) (moore.Machine, error) = moore.Build
	_ func(moore.Machine, []byte) api.Out                      = moore.Run

	_ func(moore.Machine) moore.Machine = least.Least

	_ func([]byte) (int, int) = luhn.Sum
	_ func([]byte) bool       = luhn.Ok

	_ func(mask.Rule, []byte) bool                = mask.Fits
	_ func([]mask.Rule, int, []byte) []bool       = mask.Cover
	_ func([]mask.Rule, int, byte, []byte) []byte = mask.Mask

	_ func(int) *ct.Machine                           = ct.New
	_ func(*ct.Machine, api.Insn) (uint64, error)     = (*ct.Machine).Do
	_ func(*ct.Machine) []api.Insn                    = (*ct.Machine).Trace
	_ func(int, int, int, int, int, int) []api.Insn   = macro.Look
	_ func(int, int) []api.Insn                       = macro.Copy
	_ func(*ct.Machine, []api.Insn) ([]uint64, error) = macro.Run

	_ func(uint64) (int, error) = rate.Of
	_ func(int) uint64          = rate.Bits
	_ func(uint64, uint64) bool = rate.Less
	_ func(uint64, uint64) bool = rate.Same

	_ func(int, int, int) (pace.Pace, error)       = pace.New
	_ func(pace.Pace, int) (pace.Pace, int, error) = pace.Pace.Write
	_ func(pace.Pace) (pace.Pace, int)             = pace.Pace.Tick
	_ func(pace.Pace) (pace.Pace, error)           = pace.Pace.Close

	_ func(string) ([]api.Rule, error) = rules.Parse
	_ func([]api.Rule) string          = rules.Show

	_ func(string, api.Config) ([]mask.Rule, int, error) = verdict.Check

	_ func([]mask.Rule, int, int) (moore.Machine, error) = table.Build

	_ func(moore.Machine, int, int, byte) *scan.Engine = scan.New
	_ func(*scan.Engine, byte) error                   = (*scan.Engine).Push
	_ func(*scan.Engine) error                         = (*scan.Engine).Drain
	_ func(*scan.Engine) (byte, error)                 = (*scan.Engine).Release
	_ func(*scan.Engine) (int, int)                    = (*scan.Engine).Held
	_ func(*scan.Engine) []api.Insn                    = (*scan.Engine).Trace

	_ func(string, api.Config) (*dlp.Filter, error) = dlp.Compile
	_ func(*dlp.Filter, []byte) (int, error)        = (*dlp.Filter).Write
	_ func(*dlp.Filter) []byte                      = (*dlp.Filter).Tick
	_ func(*dlp.Filter) error                       = (*dlp.Filter).Close
	_ func(*dlp.Filter) (int, int)                  = (*dlp.Filter).Held
	_ func(*dlp.Filter) []api.Insn                  = (*dlp.Filter).Trace

	_ func() []string             = pack.Names
	_ func(string) (string, bool) = pack.Text

	_ func(string, api.Config, []script.Step) ([]script.Reply, error) = script.Run
)

// A type with other fields doesn't compile here.
var (
	_ = struct {
		Sets   []api.Set
		First  []int
		Last   []bool
		Follow [][]int
		Empty  bool
	}(nfa.Nfa{})
	_ = struct {
		Class   [256]int
		Classes int
		Next    [][]int
		Out     []api.Out
	}(moore.Machine{})
	_ = struct {
		N    api.Node
		Luhn bool
	}(mask.Rule{})
	_ = struct {
		Lambda, K, Q, Ring, Queue int
		Closed                    bool
	}(pace.Pace{})
	_ = struct {
		Kind int
		B    []byte
	}(script.Step{})
	_ = struct {
		N     int
		Code  int
		Frame []byte
	}(script.Reply{})
)

func TestErrorsAreCountedFromOne(t *testing.T) {
	for i, c := range []api.Code{
		api.ErrArg, api.ErrForm, api.ErrStar, api.ErrLarge, api.ErrEmpty, api.ErrLong,
		api.ErrMask, api.ErrTwice, api.ErrClosed, api.ErrFull, api.ErrBig,
	} {
		if int(c) != i+1 {
			t.Errorf("code %d stands at %d", int(c), i+1)
		}
	}
}

func TestSpotHoldsItsCode(t *testing.T) {
	var err error = &api.Spot{At: 3, Code: api.ErrStar}
	if !errors.Is(err, api.ErrStar) || errors.Is(err, api.ErrForm) {
		t.Error(err)
	}
}

func TestNodesAndInstructionsAreCounted(t *testing.T) {
	for i, n := range []int{api.One, api.Cat, api.Alt, api.Rep} {
		if n != i+1 {
			t.Errorf("node %d stands at %d", n, i+1)
		}
	}
	for i, n := range []int{
		api.Const, api.Sel, api.Eq, api.Lt, api.Add, api.CSub,
		api.Shl, api.Shr, api.And, api.Or, api.In, api.Emit,
	} {
		if n != i {
			t.Errorf("instruction %d stands at %d", n, i)
		}
	}
}

func TestLimits(t *testing.T) {
	got := [...]int{
		api.MaxText, api.MaxNest, api.MaxTimes, api.MaxLambda, api.MaxPos, api.MaxRate, api.MaxQueue,
		api.MaxCap, api.MaxRules, api.MaxName, api.MaxRuleset, api.MaxCells, api.MaxSteps,
	}
	want := [...]int{200, 20, 32, 32, 256, 1024, 1024, 1000, 8, 16, 4000, 200000, 200}
	if got != want {
		t.Error(got)
	}
}
