package tests

import (
	"fmt"
	"math"
	"math/rand/v2"
	"slices"
	"testing"

	"loop.example/plcruntime/impl"
)

// The limits of chapter 4 stand in its text.
const (
	mostSignal = 200
	mostHold   = 20
)

var bothValues = []bool{false, true}

// latchCases are all combinations of a state and the inputs of a latch, with the next state of both latches.
var latchCases = []struct {
	state, set, reset          bool
	setDominant, resetDominant bool
}{
	{false, false, false, false, false},
	{false, false, true, false, false},
	{false, true, false, true, true},
	{false, true, true, true, false},
	{true, false, false, true, true},
	{true, false, true, false, false},
	{true, true, false, true, true},
	{true, true, true, true, false},
}

// shortSignals are all signals of at most 9 values, the empty one among them.
func shortSignals() [][]bool {
	list := [][]bool{nil}
	for size := range 10 {
		for x := range 1 << size {
			list = append(list, row(x, size))
		}
	}
	return list
}

// longSignals are signals of 10 to 200 values: constant and alternating ones, and ones with runs of random lengths.
func longSignals() [][]bool {
	r := rand.New(rand.NewPCG(4, 0))
	var list [][]bool
	for _, size := range []int{10, 19, 20, 21, 22, 40, 41, 64, 65, 128, 199, mostSignal} {
		list = append(list, slices.Repeat([]bool{false}, size), slices.Repeat([]bool{true}, size))
		list = append(list, runs(size, func() int { return 1 }))
		for _, most := range []int{2, 3, 5, 12, mostHold, mostHold + 2, 50} {
			for range 4 {
				list = append(list, runs(size, func() int { return 1 + r.IntN(most) }))
			}
		}
	}
	return list
}

// runs returns a signal of a number of values, with runs of equal values of the lengths that a function returns.
func runs(size int, length func() int) []bool {
	var list []bool
	for value := true; len(list) < size; value = !value {
		list = append(list, slices.Repeat([]bool{value}, length())...)
	}
	return list[:size]
}

func signals() [][]bool {
	return append(shortSignals(), longSignals()...)
}

// wrongHolds are numbers outside of 1..20.
var wrongHolds = []int{0, 21, -1, -20, 22, 63, 64, 65, 200, 256, 257, 1 << 32, 1<<32 + 1, math.MinInt, math.MinInt + 1, math.MaxInt}

// wantEdges is EdgeTrace by the document's sentence.
func wantEdges(first bool, list []bool) []bool {
	all := append([]bool{first}, list...)
	edges := make([]bool, len(list))
	for n := range edges {
		edges[n] = !all[n] && all[n+1]
	}
	return edges
}

// wantDebounced is Debounce, found by looking back over the last values of the signal at every value.
func wantDebounced(first bool, list []bool, hold int) []bool {
	outputs := make([]bool, len(list))
	out := first
	for n := range list {
		if n+1 >= hold && !slices.Contains(list[n+1-hold:n+1], out) {
			out = !out
		}
		outputs[n] = out
	}
	return outputs
}

// P37: an edge needs a false value before and a true one now.
func TestRisingEdge(t *testing.T) {
	for _, before := range bothValues {
		for _, now := range bothValues {
			if got := impl.RisingEdge(before, now); got != (!before && now) {
				t.Errorf("RisingEdge(%v, %v) = %v", before, now, got)
			}
		}
	}
}

// P38, P39: every combination of state and inputs, both inputs at once among them.
func TestLatches(t *testing.T) {
	for _, c := range latchCases {
		if got := impl.SetDominant(c.state, c.set, c.reset); got != c.setDominant {
			t.Errorf("SetDominant(%v, %v, %v) = %v", c.state, c.set, c.reset, got)
		}
		if got := impl.ResetDominant(c.state, c.set, c.reset); got != c.resetDominant {
			t.Errorf("ResetDominant(%v, %v, %v) = %v", c.state, c.set, c.reset, got)
		}
	}
}

// P38: with both inputs a set-dominant latch is true, without inputs it is unchanged. P39: with both inputs a reset-dominant one is false.
func TestDominantInputs(t *testing.T) {
	for _, state := range bothValues {
		if !impl.SetDominant(state, true, true) || impl.ResetDominant(state, true, true) {
			t.Errorf("both inputs, from %v", state)
		}
		if impl.SetDominant(state, false, false) != state || impl.ResetDominant(state, false, false) != state {
			t.Errorf("no inputs, from %v", state)
		}
	}
}

// P38: the same inputs again change nothing. P39: each latch is the negation of the other one with exchanged inputs and negated state.
func TestLatchesAgainAndNegated(t *testing.T) {
	for _, c := range latchCases {
		once := impl.SetDominant(c.state, c.set, c.reset)
		if impl.SetDominant(once, c.set, c.reset) != once {
			t.Errorf("SetDominant from %v, set %v, reset %v: changes again", c.state, c.set, c.reset)
		}
		other := impl.ResetDominant(c.state, c.set, c.reset)
		if impl.ResetDominant(other, c.set, c.reset) != other {
			t.Errorf("ResetDominant from %v, set %v, reset %v: changes again", c.state, c.set, c.reset)
		}
		if other == impl.SetDominant(!c.state, c.reset, c.set) {
			t.Errorf("ResetDominant from %v, set %v, reset %v: not the negation", c.state, c.set, c.reset)
		}
	}
}

func TestEdgeTraceOfCases(t *testing.T) {
	cases := []struct {
		name  string
		first bool
		list  []bool
		want  []bool
	}{
		{"no values", false, nil, nil},
		{"no values after true", true, []bool{}, nil},
		{"true after false", false, []bool{true}, []bool{true}},
		{"true after true", true, []bool{true}, []bool{false}},
		{"false after true", true, []bool{false}, []bool{false}},
		{"false after false", false, []bool{false}, []bool{false}},
		{"stays true", false, []bool{true, true, true}, []bool{true, false, false}},
		{"returns", true, []bool{true, false, true, true}, []bool{false, false, true, false}},
		{"the last value", false, []bool{false, false, true}, []bool{false, false, true}},
		{"alternates", false, []bool{true, false, true, false, true}, []bool{true, false, true, false, true}},
	}
	for _, c := range cases {
		if got := impl.EdgeTrace(c.first, c.list); !slices.Equal(got, c.want) {
			t.Errorf("%s: %v", c.name, got)
		}
	}
}

// P40: one value per value of the signal; no two consecutive edges; at most one edge more than falls.
func TestEdgeTrace(t *testing.T) {
	for _, list := range signals() {
		for _, first := range bothValues {
			got := impl.EdgeTrace(first, list)
			if !slices.Equal(got, wantEdges(first, list)) {
				t.Fatalf("EdgeTrace(%v, %v) = %v", first, list, got)
			}
			checkAlternation(t, first, list, got)
		}
	}
}

// checkAlternation checks every part of the signal from its first value on; after a true value there is no edge more than falls.
func checkAlternation(t *testing.T, first bool, list []bool, edges []bool) {
	t.Helper()
	before, rises, falls := first, 0, 0
	most := 1
	if first {
		most = 0
	}
	for n, now := range list {
		if edges[n] != impl.RisingEdge(before, now) {
			t.Fatalf("EdgeTrace(%v, %v) = %v: value %d is not RisingEdge", first, list, edges, n)
		}
		if edges[n] {
			rises++
		}
		if before && !now {
			falls++
		}
		if rises > falls+most || n > 0 && edges[n] && edges[n-1] {
			t.Fatalf("EdgeTrace(%v, %v) = %v: no fall before edge %d", first, list, edges, n)
		}
		before = now
	}
}

// Signals have at most 200 values.
func TestLengthOfSignals(t *testing.T) {
	for _, size := range []int{0, 1, 199, 200, 201, 202, 256, 400, 456, 1000, 70000} {
		list := runs(size, func() int { return 3 })
		want := size
		if size > mostSignal {
			want = 0
		}
		for _, first := range bothValues {
			if got := impl.EdgeTrace(first, list); len(got) != want {
				t.Errorf("EdgeTrace of %d values has %d", size, len(got))
			}
			for _, hold := range []int{1, 2, 3, 4, mostHold} {
				if got := impl.Debounce(first, list, hold); len(got) != want {
					t.Errorf("Debounce of %d values with hold %d has %d", size, hold, len(got))
				}
			}
		}
	}
}

func TestDebounceOfCases(t *testing.T) {
	cases := []struct {
		name  string
		first bool
		list  []bool
		hold  int
		want  []bool
	}{
		{"no values", true, nil, 1, nil},
		{"hold 1", false, []bool{true, false, true}, 1, []bool{true, false, true}},
		{"one value less than hold", false, []bool{true, true, false}, 3, []bool{false, false, false}},
		{"exactly hold values", false, []bool{true, true, true, false}, 3, []bool{false, false, true, true}},
		{"one value less than hold, down", true, []bool{false, false, true}, 3, []bool{true, true, true}},
		{"exactly hold values, down", true, []bool{false, false, false, true}, 3, []bool{true, true, false, false}},
		{"returns and changes again", false, []bool{true, false, true, true}, 2, []bool{false, false, false, true}},
		{"returns often", false, []bool{true, true, false, true, true, false, true, true, true}, 3, []bool{false, false, false, false, false, false, false, false, true}},
		{"as before", true, []bool{true, true, true}, 2, []bool{true, true, true}},
		{"up and down", false, []bool{true, true, false, false, true, true}, 2, []bool{false, true, true, false, false, true}},
		{"down one value after the change", false, []bool{true, true, true, false, true, false, false}, 2, []bool{false, true, true, true, true, true, false}},
		{"ends before hold", false, []bool{true, true}, 3, []bool{false, false}},
	}
	for _, c := range cases {
		if got := impl.Debounce(c.first, c.list, c.hold); !slices.Equal(got, c.want) {
			t.Errorf("%s: %v", c.name, got)
		}
	}
}

// P41: a change shorter than hold is ignored, and one of hold values comes with the last of them, for every hold.
func TestDebounceAroundHold(t *testing.T) {
	for hold := 1; hold <= mostHold; hold++ {
		for _, first := range bothValues {
			same, other := []bool{first}, []bool{!first}
			less := slices.Repeat(other, hold-1)
			constant := slices.Repeat(same, len(less)+1)
			if got := impl.Debounce(first, append(slices.Clone(less), first), hold); !slices.Equal(got, constant) {
				t.Errorf("hold %d from %v, %d other values: %v", hold, first, hold-1, got)
			}
			exact := slices.Repeat(other, hold)
			want := append(slices.Repeat(same, hold-1), !first)
			if got := impl.Debounce(first, exact, hold); !slices.Equal(got, want) {
				t.Errorf("hold %d from %v, %d other values: %v", hold, first, hold, got)
			}
			again := slices.Concat(less, same, exact)
			want = slices.Concat(slices.Repeat(same, len(again)-1), other)
			if got := impl.Debounce(first, again, hold); !slices.Equal(got, want) {
				t.Errorf("hold %d from %v, with a return before: %v", hold, first, got)
			}
		}
	}
}

// P41: with hold 1 the output is the signal; the output changes only to the value that the signal has had for hold values.
func TestDebounce(t *testing.T) {
	for _, list := range signals() {
		for _, first := range bothValues {
			if got := impl.Debounce(first, list, 1); !slices.Equal(got, list) {
				t.Fatalf("Debounce(%v, %v, 1) = %v", first, list, got)
			}
			for hold := 1; hold <= mostHold; hold++ {
				got := impl.Debounce(first, list, hold)
				if !slices.Equal(got, wantDebounced(first, list, hold)) {
					t.Fatalf("Debounce(%v, %v, %d) = %v", first, list, hold, got)
				}
				checkChanges(t, first, list, hold, got)
			}
		}
	}
}

func checkChanges(t *testing.T, first bool, list []bool, hold int, outputs []bool) {
	t.Helper()
	before := first
	for n, out := range outputs {
		if out != before && (n+1 < hold || slices.Contains(list[n+1-hold:n+1], before)) {
			t.Fatalf("Debounce(%v, %v, %d) = %v: value %d changes too early", first, list, hold, outputs, n)
		}
		before = out
	}
}

// Hold is in 1..20, also for signals to which it does not matter.
func TestDebounceOfInvalidHold(t *testing.T) {
	for _, hold := range wrongHolds {
		for _, list := range [][]bool{nil, {true}, {false, false}, slices.Repeat([]bool{true}, 30), slices.Repeat([]bool{true}, mostSignal), slices.Repeat([]bool{true}, mostSignal+1)} {
			for _, first := range bothValues {
				if got := impl.Debounce(first, list, hold); len(got) != 0 {
					t.Errorf("Debounce(%v, %d values, %d) = %v", first, len(list), hold, got)
				}
			}
		}
	}
	for hold := 1; hold <= mostHold; hold++ {
		if got := impl.Debounce(true, []bool{true}, hold); !slices.Equal(got, []bool{true}) {
			t.Errorf("Debounce with hold %d = %v", hold, got)
		}
	}
}

// signalFunctions are the functions that return a signal for a signal.
func signalFunctions() map[string]func([]bool) []bool {
	functions := map[string]func([]bool) []bool{}
	for _, first := range bothValues {
		functions[fmt.Sprintf("EdgeTrace from %v", first)] = func(list []bool) []bool { return impl.EdgeTrace(first, list) }
		for _, hold := range []int{0, 1, 2, 5, mostHold, mostHold + 1} {
			functions[fmt.Sprintf("Debounce from %v with hold %d", first, hold)] = func(list []bool) []bool { return impl.Debounce(first, list, hold) }
		}
	}
	return functions
}

// The argument and its spare capacity are neither changed nor part of the result, and results are independent of each other.
func TestSignalsHaveOwnMemory(t *testing.T) {
	tooLong := runs(mostSignal+1, func() int { return 4 })
	for name, f := range signalFunctions() {
		for _, list := range append(longSignals(), nil, []bool{}, []bool{true}, []bool{false, true}, tooLong) {
			m := impl.Image{Bits: list}
			checkOwnMemory(t, name, m, func(m impl.Image) impl.Image { return impl.Image{Bits: f(m.Bits)} })
		}
	}
}

// Values in the spare capacity of a signal are not part of it.
func TestSpareCapacityOfSignals(t *testing.T) {
	list := slices.Repeat([]bool{true}, mostSignal+50)
	for size := range 5 {
		if got := impl.EdgeTrace(false, list[:size]); !slices.Equal(got, wantEdges(false, list[:size])) {
			t.Errorf("EdgeTrace of %d values: %v", size, got)
		}
		if got := impl.Debounce(false, list[:size], 3); !slices.Equal(got, wantDebounced(false, list[:size], 3)) {
			t.Errorf("Debounce of %d values: %v", size, got)
		}
	}
	if got := impl.EdgeTrace(true, list[:mostSignal]); len(got) != mostSignal {
		t.Errorf("%d values", len(got))
	}
}

// P125: a set rung and then a reset rung of the same coil are a reset-dominant latch, in the other order a set-dominant one.
func TestLatchOfTwoRungs(t *testing.T) {
	for _, c := range latchCases {
		m := impl.Image{Bits: []bool{c.set, c.reset, c.state}, Words: []int{7}}
		for _, l := range []struct {
			list        ladder
			want, latch bool
		}{
			{ladder{set(2, x0), reset(2, x1)}, c.resetDominant, impl.ResetDominant(c.state, c.set, c.reset)},
			{ladder{reset(2, x1), set(2, x0)}, c.setDominant, impl.SetDominant(c.state, c.set, c.reset)},
		} {
			got := impl.RunLadder(m, l.list)
			want := impl.Image{Bits: []bool{c.set, c.reset, l.want}, Words: []int{7}}
			if !same(got, want) || l.latch != l.want {
				t.Errorf("%v leads from %v to %v, and the latch to %v", l.list, m, got, l.latch)
			}
		}
	}
}

// P125: for every coil, and whatever the inputs are, as long as they do not use the coil.
func TestLatchesOfLadders(t *testing.T) {
	for bits := 2; bits <= mostBits; bits++ {
		r := rand.New(rand.NewPCG(125, uint64(bits)))
		rows := allRows(bits)
		for n := range 60 {
			coil := n % bits
			s, x := away(r, bits, coil), away(r, bits, coil)
			s.Coil, s.Kind = coil, kindSet
			x.Coil, x.Kind = coil, kindReset
			for _, values := range rows {
				m := impl.Image{Bits: values}
				on, off := impl.EvalLogic(m, s.Logic), impl.EvalLogic(m, x.Logic)
				resetLast := impl.SetBit(m, coil, impl.ResetDominant(values[coil], on, off))
				setLast := impl.SetBit(m, coil, impl.SetDominant(values[coil], on, off))
				if got := impl.RunLadder(m, ladder{s, x}); !same(got, resetLast) {
					t.Fatalf("%v, %v leads from %v to %v", s, x, m, got)
				}
				if got := impl.RunLadder(m, ladder{x, s}); !same(got, setLast) {
					t.Fatalf("%v, %v leads from %v to %v", x, s, m, got)
				}
			}
		}
	}
}

// P125: over many scans the coils of a ladder follow the latches, with other rungs around them.
func TestLatchesOverScans(t *testing.T) {
	list := ladder{set(2, x0), assign(4, x0, x1, and), reset(2, x1), reset(3, x1), set(3, x0), assign(5, bitNode(2), bitNode(3), xor)}
	m := impl.NewImage(6, 1)
	resetLast, setLast := false, false
	r := rand.New(rand.NewPCG(125, 0))
	for n := range 500 {
		on, off := r.IntN(3) == 0, r.IntN(3) == 0
		m = impl.RunLadder(impl.SetBit(impl.SetBit(m, 0, on), 1, off), list)
		resetLast, setLast = impl.ResetDominant(resetLast, on, off), impl.SetDominant(setLast, on, off)
		want := []bool{on, off, resetLast, setLast, on && off, resetLast != setLast}
		if !slices.Equal(m.Bits, want) {
			t.Fatalf("%v after %d scans, not %v", m.Bits, n+1, want)
		}
	}
}
