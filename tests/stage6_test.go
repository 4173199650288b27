package tests

import (
	"math"
	"math/rand/v2"
	"slices"
	"testing"

	"loop.example/plcruntime/impl"
)

// The limit is repeated here as the number of the document's table, so that a wrong constant is found.
const mostCount = 9999

// counts are values and preset values in range, and wrongCounts such ones out of range.
var (
	counts      = []int{0, 1, 2, 3, 5, 10, 127, 128, 255, 256, 4999, 9990, 9997, 9998, mostCount}
	wrongCounts = []int{-1, mostCount + 1, -2, -10, -mostCount, mostCount + 2, 20000, 32767, 32768, 65536, -65536, 1 << 32, 1<<32 + 10, -1 << 32, math.MinInt, math.MinInt + 1, math.MaxInt}
)

// stepInputs are the four inputs of a step.
type stepInputs struct {
	up, down, reset, load bool
}

// allInputs are all combinations of the inputs of a step.
func allInputs() []stepInputs {
	var list []stepInputs
	for _, values := range allRows(4) {
		list = append(list, stepInputs{values[0], values[1], values[2], values[3]})
	}
	return list
}

// count executes a step.
func count(c impl.Counter, in stepInputs) impl.Counter {
	return impl.CounterStep(c, in.up, in.down, in.reset, in.load)
}

// withEveryState returns the counters with every combination of the inputs of their last step.
func withEveryState(list ...impl.Counter) []impl.Counter {
	var states []impl.Counter
	for _, c := range list {
		for _, values := range allRows(2) {
			c.Up, c.Down = values[0], values[1]
			states = append(states, c)
		}
	}
	return states
}

// validCounters are counters with values below, at and beyond their preset values, in every state.
func validCounters() []impl.Counter {
	var list []impl.Counter
	for _, preset := range counts {
		for _, value := range counts {
			list = append(list, impl.Counter{Preset: preset, Value: value})
		}
	}
	return withEveryState(list...)
}

// invalidCounters are counters with a value, a preset value or both out of range, in every state.
func invalidCounters() []impl.Counter {
	var list []impl.Counter
	for _, wrong := range wrongCounts {
		for _, right := range counts {
			list = append(list, impl.Counter{Preset: wrong, Value: right}, impl.Counter{Preset: right, Value: wrong})
		}
		for _, other := range wrongCounts {
			list = append(list, impl.Counter{Preset: wrong, Value: other})
		}
	}
	return withEveryState(list...)
}

// wantCount is CounterStep by the document's sentences, for a valid counter.
func wantCount(c impl.Counter, in stepInputs) impl.Counter {
	next := impl.Counter{Preset: c.Preset, Value: c.Value, Up: in.up, Down: in.down}
	upHasBecomeTrue := in.up && !c.Up
	downHasBecomeTrue := in.down && !c.Down
	if in.reset {
		next.Value = 0
	} else if in.load {
		next.Value = c.Preset
	} else if upHasBecomeTrue && !downHasBecomeTrue {
		if c.Value < mostCount {
			next.Value++
		}
	} else if downHasBecomeTrue && !upHasBecomeTrue {
		if c.Value > 0 {
			next.Value--
		}
	}
	return next
}

func TestCounterConstants(t *testing.T) {
	if impl.MaxCount != mostCount {
		t.Fatal(impl.MaxCount)
	}
}

// P49: every combination of a preset value and a value, within and outside of the range.
func TestCounterValid(t *testing.T) {
	all := slices.Concat(counts, wrongCounts)
	for _, preset := range all {
		for _, value := range all {
			want := slices.Contains(counts, preset) && slices.Contains(counts, value)
			for _, c := range withEveryState(impl.Counter{Preset: preset, Value: value}) {
				if got := impl.CounterValid(c); got != want {
					t.Fatalf("CounterValid(%+v) = %v", c, got)
				}
			}
		}
	}
}

// P49: every number of the range is valid as a value and as a preset value, and none beside it.
func TestRangeOfCounters(t *testing.T) {
	for n := -300; n <= mostCount+300; n++ {
		want := n >= 0 && n <= mostCount
		for _, c := range withEveryState(impl.Counter{Value: n}, impl.Counter{Preset: n}, impl.Counter{Preset: n, Value: n}, impl.Counter{Preset: mostCount, Value: n}, impl.Counter{Preset: n, Value: mostCount}) {
			if got := impl.CounterValid(c); got != want {
				t.Fatalf("CounterValid(%+v) = %v", c, got)
			}
		}
	}
}

// P49: a valid counter becomes invalid by a value or a preset value out of range.
func TestChangedCountersAreInvalid(t *testing.T) {
	for _, c := range validCounters() {
		if !impl.CounterValid(c) {
			t.Fatalf("%+v is invalid", c)
		}
		for _, wrong := range wrongCounts {
			value, preset := c, c
			value.Value, preset.Preset = wrong, wrong
			if impl.CounterValid(value) || impl.CounterValid(preset) {
				t.Fatalf("%+v or %+v is valid", value, preset)
			}
		}
	}
}

// countCases are steps with their results, written by hand; "ud" are the inputs up and down that were, or are, true.
var countCases = []struct {
	name   string
	preset int
	value  int
	before string
	inputs string
	want   int
}{
	{"no input", 5, 3, "", "", 3},
	{"up becomes true", 5, 3, "", "u", 4},
	{"up stays true", 5, 3, "u", "u", 3},
	{"up becomes false", 5, 3, "u", "", 3},
	{"down becomes true", 5, 3, "", "d", 2},
	{"down stays true", 5, 3, "d", "d", 3},
	{"down becomes false", 5, 3, "d", "", 3},
	{"both become true", 5, 3, "", "ud", 3},
	{"both stay true", 5, 3, "ud", "ud", 3},
	{"both become false", 5, 3, "ud", "", 3},
	{"up becomes true, down stays true", 5, 3, "d", "ud", 4},
	{"up becomes true, down becomes false", 5, 3, "d", "u", 4},
	{"down becomes true, up stays true", 5, 3, "u", "ud", 2},
	{"down becomes true, up becomes false", 5, 3, "u", "d", 2},
	{"up becomes false, down stays true", 5, 3, "ud", "d", 3},
	{"down becomes false, up stays true", 5, 3, "ud", "u", 3},
	{"up at 0", 5, 0, "", "u", 1},
	{"down at 0", 5, 0, "", "d", 0},
	{"down at 1", 5, 1, "", "d", 0},
	{"both at 0", 5, 0, "", "ud", 0},
	{"down at 0, up stays true", 5, 0, "u", "ud", 0},
	{"up below the largest value", 5, 9998, "", "u", 9999},
	{"up at the largest value", 5, 9999, "", "u", 9999},
	{"up at the largest value, down stays true", 5, 9999, "d", "ud", 9999},
	{"down at the largest value", 5, 9999, "", "d", 9998},
	{"both at the largest value", 5, 9999, "", "ud", 9999},
	{"up below the preset value", 5, 4, "", "u", 5},
	{"up at the preset value", 5, 5, "", "u", 6},
	{"up beyond the preset value", 5, 6, "", "u", 7},
	{"up with the preset value 0", 0, 0, "", "u", 1},
	{"up with the largest preset value", 9999, 9998, "", "u", 9999},
	{"reset", 5, 3, "", "r", 0},
	{"reset at 0", 5, 0, "", "r", 0},
	{"reset at the largest value", 5, 9999, "", "r", 0},
	{"reset, up becomes true", 5, 3, "", "ur", 0},
	{"reset, down becomes true", 5, 3, "", "dr", 0},
	{"reset, both become true", 5, 3, "", "udr", 0},
	{"load", 5, 3, "", "l", 5},
	{"load at the preset value", 5, 5, "", "l", 5},
	{"load beyond the preset value", 5, 8, "", "l", 5},
	{"load of 0", 0, 8, "", "l", 0},
	{"load of the largest value", 9999, 0, "", "l", 9999},
	{"load, up becomes true", 5, 3, "", "ul", 5},
	{"load, down becomes true", 5, 3, "", "dl", 5},
	{"load, both become true", 5, 3, "", "udl", 5},
	{"load of the largest value, up becomes true", 9999, 3, "", "ul", 9999},
	{"load of 0, down becomes true", 0, 3, "", "dl", 0},
	{"reset together with load", 5, 3, "", "rl", 0},
	{"reset together with load, up becomes true", 5, 3, "", "url", 0},
	{"reset together with load, both become true", 5, 3, "", "udrl", 0},
	{"reset together with load, all was true", 5, 3, "ud", "udrl", 0},
}

// P50: the hand-written steps; the inputs are remembered whatever else the step does.
func TestCounterStepOfCases(t *testing.T) {
	for _, c := range countCases {
		has := func(input rune) bool { return slices.Contains([]rune(c.inputs), input) }
		was := func(input rune) bool { return slices.Contains([]rune(c.before), input) }
		start := impl.Counter{Preset: c.preset, Value: c.value, Up: was('u'), Down: was('d')}
		want := impl.Counter{Preset: c.preset, Value: c.want, Up: has('u'), Down: has('d')}
		if got := count(start, stepInputs{has('u'), has('d'), has('r'), has('l')}); got != want {
			t.Errorf("%s: %+v, not %+v", c.name, got, want)
		}
	}
}

// P50: every combination of the inputs and of those of the last step, for all kinds of values.
func TestCounterStep(t *testing.T) {
	for _, c := range validCounters() {
		for _, in := range allInputs() {
			checkCount(t, c, in)
		}
	}
}

// P50: every value of the range is counted up and down.
func TestCounterStepOfEveryValue(t *testing.T) {
	inputs := allInputs()
	for value := range mostCount + 1 {
		for _, c := range withEveryState(impl.Counter{Preset: mostCount - value, Value: value}) {
			for _, in := range inputs {
				checkCount(t, c, in)
			}
		}
	}
}

// checkCount checks a step of a valid counter: its result, that the result is valid, and that the same inputs again, without reset and load, change nothing.
func checkCount(t *testing.T, c impl.Counter, in stepInputs) {
	t.Helper()
	kept := c
	got := count(c, in)
	if got != wantCount(c, in) || c != kept || !impl.CounterValid(got) {
		t.Fatalf("CounterStep(%+v, %+v) = %+v", kept, in, got)
	}
	change := got.Value - c.Value
	switch {
	case in.reset && got.Value != 0, in.load && !in.reset && got.Value != c.Preset:
		t.Fatalf("CounterStep(%+v, %+v) = %+v: neither reset nor loaded", c, in, got)
	case !in.reset && !in.load && (change < -1 || change > 1):
		t.Fatalf("CounterStep(%+v, %+v) = %+v: more than one edge", c, in, got)
	}
	if again := count(got, stepInputs{up: in.up, down: in.down}); again != got {
		t.Fatalf("CounterStep(%+v, %+v) = %+v, and then %+v", c, in, got, again)
	}
}

// P50: long sequences of steps follow the reference, also near 0 and near the largest value.
func TestCounterStepsFollowReference(t *testing.T) {
	r := rand.New(rand.NewPCG(50, 0))
	for n := range 400 {
		c := impl.Counter{Preset: counts[r.IntN(len(counts))], Value: counts[r.IntN(len(counts))], Up: r.IntN(2) == 0, Down: r.IntN(2) == 0}
		want := c
		// Resets and loads are rare, and up or down is seldom true, so that the value also moves away and reaches the limits.
		upOf, downOf := 2+n%3, 2+n/3%3
		for range 300 {
			in := stepInputs{r.IntN(upOf) == 0, r.IntN(downOf) == 0, r.IntN(90) == 0, r.IntN(60) == 0}
			before := c
			c, want = count(c, in), wantCount(want, in)
			if c != want {
				t.Fatalf("CounterStep(%+v, %+v) = %+v, not %+v", before, in, c, want)
			}
		}
	}
}

// P50: an edge in a step with reset or load is not counted in the next step either.
func TestEdgesDuringResetAndLoad(t *testing.T) {
	for _, c := range validCounters() {
		for _, in := range allInputs() {
			if !in.reset && !in.load {
				continue
			}
			want := 0
			if !in.reset {
				want = c.Preset
			}
			held := count(count(c, in), stepInputs{up: in.up, down: in.down})
			released := count(held, stepInputs{})
			if held.Value != want || released.Value != want {
				t.Fatalf("after CounterStep(%+v, %+v): %+v and %+v", c, in, held, released)
			}
		}
	}
}

// P50: counting up to the largest value and down to 0 again, and both limits hold.
func TestCountingThroughTheRange(t *testing.T) {
	c := impl.Counter{Preset: 100}
	for n := 1; n <= mostCount+5; n++ {
		c = count(count(c, stepInputs{up: true}), stepInputs{})
		if c.Value != min(n, mostCount) || impl.CounterReached(c) != (n >= 100) || impl.CounterEmpty(c) {
			t.Fatalf("after %d edges of up: %+v", n, c)
		}
	}
	for n := 1; n <= mostCount+5; n++ {
		c = count(count(c, stepInputs{down: true}), stepInputs{})
		want := max(mostCount-n, 0)
		if c.Value != want || impl.CounterReached(c) != (want >= 100) || impl.CounterEmpty(c) != (want == 0) {
			t.Fatalf("after %d edges of down: %+v", n, c)
		}
	}
}

// P49, P50: a step of an invalid counter, and all counting with it, leads to the zero value, whatever the inputs are.
func TestStepsOfInvalidCounters(t *testing.T) {
	lists := [][]bool{nil, {false}, {true}, {true, false, true}, slices.Repeat([]bool{false, true}, 100), slices.Repeat([]bool{true}, 201)}
	for _, c := range invalidCounters() {
		for _, in := range allInputs() {
			if got := count(c, in); got != (impl.Counter{}) {
				t.Fatalf("CounterStep(%+v, %+v) = %+v", c, in, got)
			}
		}
		for _, list := range lists {
			if got := impl.CountEdges(c, list); got != (impl.Counter{}) {
				t.Fatalf("CountEdges(%+v, %d values) = %+v", c, len(list), got)
			}
		}
	}
}

// P51, P52: values below, at and beyond the preset value, the preset value 0 among them; without a valid counter nothing is reached or empty.
func TestReachedAndEmpty(t *testing.T) {
	cases := []struct {
		preset, value  int
		reached, empty bool
	}{
		{5, 0, false, true},
		{5, 4, false, false},
		{5, 5, true, false},
		{5, 6, true, false},
		{5, 9999, true, false},
		{0, 0, true, true},
		{0, 1, true, false},
		{0, 9999, true, false},
		{1, 0, false, true},
		{1, 1, true, false},
		{9999, 0, false, true},
		{9999, 9998, false, false},
		{9999, 9999, true, false},
		{-1, 0, false, false},
		{-1, 5, false, false},
		{10000, 0, false, false},
		{10000, 9999, false, false},
		{10000, 10000, false, false},
		{5, -1, false, false},
		{5, 10000, false, false},
		{0, 10000, false, false},
		{0, -1, false, false},
		{-2, -1, false, false},
	}
	for _, c := range cases {
		for _, counter := range withEveryState(impl.Counter{Preset: c.preset, Value: c.value}) {
			if reached, empty := impl.CounterReached(counter), impl.CounterEmpty(counter); reached != c.reached || empty != c.empty {
				t.Errorf("%+v: reached %v, empty %v", counter, reached, empty)
			}
		}
	}
	for _, c := range invalidCounters() {
		if impl.CounterReached(c) || impl.CounterEmpty(c) {
			t.Fatalf("%+v is reached or empty", c)
		}
	}
}

// P51: a counter has reached its preset value exactly if its value is not less, and has after load without reset.
func TestCounterReached(t *testing.T) {
	for _, c := range validCounters() {
		if got := impl.CounterReached(c); got != (c.Value >= c.Preset) {
			t.Fatalf("CounterReached(%+v) = %v", c, got)
		}
		for _, in := range allInputs() {
			if next := count(c, in); in.load && !in.reset && !impl.CounterReached(next) {
				t.Fatalf("CounterStep(%+v, %+v) = %+v has not reached the preset value", c, in, next)
			}
		}
	}
}

// P51: for every preset value, the value before it has not reached it, and one more edge of up does.
func TestReachedOnceCounted(t *testing.T) {
	for preset := 1; preset <= mostCount; preset++ {
		for _, c := range withEveryState(impl.Counter{Preset: preset, Value: preset - 1}) {
			if impl.CounterReached(c) {
				t.Fatalf("%+v has reached the preset value", c)
			}
			rested := count(c, stepInputs{})
			counted := count(rested, stepInputs{up: true})
			if impl.CounterReached(rested) || !impl.CounterReached(counted) {
				t.Fatalf("%+v, and after an edge %+v", rested, counted)
			}
			if back := count(counted, stepInputs{up: true, down: true}); impl.CounterReached(back) {
				t.Fatalf("%+v, and after an edge of down %+v", counted, back)
			}
		}
	}
}

// P52: every value but 0 is not empty.
func TestCounterEmpty(t *testing.T) {
	for value := range mostCount + 1 {
		for _, preset := range []int{0, 1, value, mostCount} {
			for _, c := range withEveryState(impl.Counter{Preset: preset, Value: value}) {
				if got := impl.CounterEmpty(c); got != (value == 0) {
					t.Fatalf("CounterEmpty(%+v) = %v", c, got)
				}
			}
		}
	}
}

// P52: a counter is empty after reset, with all other inputs, and no longer after counting up once.
func TestEmptyAfterReset(t *testing.T) {
	for _, c := range validCounters() {
		for _, in := range allInputs() {
			if !in.reset {
				continue
			}
			emptied := count(c, in)
			rested := count(emptied, stepInputs{})
			counted := count(rested, stepInputs{up: true})
			if !impl.CounterEmpty(emptied) || !impl.CounterEmpty(rested) || impl.CounterEmpty(counted) {
				t.Fatalf("after CounterStep(%+v, %+v): %+v, %+v and %+v", c, in, emptied, rested, counted)
			}
			if again := count(counted, stepInputs{up: true, down: true}); !impl.CounterEmpty(again) {
				t.Fatalf("%+v is not empty", again)
			}
		}
	}
}

// P53: signals with their numbers of edges, written by hand.
func TestCountEdgesOfCases(t *testing.T) {
	cases := []struct {
		name  string
		start impl.Counter
		list  string
		want  impl.Counter
	}{
		{"no value", impl.Counter{Preset: 7, Value: 3, Up: true, Down: true}, "", impl.Counter{Preset: 7, Value: 3, Up: true, Down: true}},
		{"no value, new counter", impl.Counter{}, "", impl.Counter{}},
		{"one value", impl.Counter{Preset: 7, Value: 3}, "1", impl.Counter{Preset: 7, Value: 4, Up: true}},
		{"one false value", impl.Counter{Preset: 7, Value: 3, Up: true}, "0", impl.Counter{Preset: 7, Value: 3}},
		{"first value true, was true", impl.Counter{Preset: 7, Value: 3, Up: true}, "1", impl.Counter{Preset: 7, Value: 3, Up: true}},
		{"first values true, was true", impl.Counter{Preset: 7, Value: 3, Up: true}, "1101", impl.Counter{Preset: 7, Value: 4, Up: true}},
		{"two edges", impl.Counter{Preset: 1}, "101", impl.Counter{Preset: 1, Value: 2, Up: true}},
		{"two edges, then false", impl.Counter{Preset: 1}, "01101100", impl.Counter{Preset: 1, Value: 2}},
		{"down was true", impl.Counter{Value: 5, Down: true}, "0101", impl.Counter{Value: 7, Up: true}},
		{"both were true", impl.Counter{Value: 5, Up: true, Down: true}, "1", impl.Counter{Value: 5, Up: true}},
		{"up to the largest value", impl.Counter{Value: 9997}, "1010", impl.Counter{Value: 9999}},
		{"beyond the largest value", impl.Counter{Value: 9998}, "10101010", impl.Counter{Value: 9999}},
		{"at the largest value", impl.Counter{Preset: 9999, Value: 9999}, "0101", impl.Counter{Preset: 9999, Value: 9999, Up: true}},
	}
	for _, c := range cases {
		if got := impl.CountEdges(c.start, parse(c.list)); got != c.want {
			t.Errorf("%s: %+v, not %+v", c.name, got, c.want)
		}
	}
}

// P53: the value grows by the number of edges of EdgeTrace, and the steps are those of CounterStep, for signals of all lengths.
func TestCountEdges(t *testing.T) {
	starts := []impl.Counter{{}, {Preset: 3}, {Value: 7}, {Preset: 10, Value: 9}, {Value: 9900}, {Value: 9990}, {Preset: mostCount, Value: 9998}, {Value: mostCount}}
	for _, list := range signals() {
		for _, c := range withEveryState(starts...) {
			checkEdges(t, c, list)
		}
	}
}

// P53: generated signals of every length up to 200, for generated counters.
func TestCountEdgesOfEveryLength(t *testing.T) {
	r := rand.New(rand.NewPCG(53, 0))
	for size := range 201 {
		for longest := 1; longest <= 6; longest++ {
			list := runs(size, func() int { return 1 + r.IntN(longest) })
			checkEdges(t, impl.Counter{Preset: r.IntN(mostCount + 1), Value: r.IntN(mostCount + 1), Up: r.IntN(2) == 0, Down: r.IntN(2) == 0}, list)
			checkEdges(t, impl.Counter{Preset: 1, Value: mostCount - r.IntN(110), Up: r.IntN(2) == 0}, list)
		}
	}
}

// checkEdges checks CountEdges of a valid counter and a signal of at most 200 values.
func checkEdges(t *testing.T, c impl.Counter, list []bool) {
	t.Helper()
	edges := 0
	for _, edge := range impl.EdgeTrace(c.Up, list) {
		if edge {
			edges++
		}
	}
	want := c
	for _, up := range list {
		want = count(want, stepInputs{up: up})
	}
	kept := c
	got := impl.CountEdges(c, list)
	if got != want || got.Value != min(c.Value+edges, mostCount) || c != kept {
		t.Fatalf("CountEdges(%+v, %v) = %+v after %d edges, not %+v", kept, list, got, edges, want)
	}
	if len(list) > 0 && (got.Up != list[len(list)-1] || got.Down) {
		t.Fatalf("CountEdges(%+v, %v) = %+v: other inputs", c, list, got)
	}
}

// P53: a signal can be counted in two parts.
func TestCountingCanBeContinued(t *testing.T) {
	r := rand.New(rand.NewPCG(53, 1))
	for range 60 {
		list := runs(200, func() int { return 1 + r.IntN(4) })
		c := impl.Counter{Value: r.IntN(200), Up: r.IntN(2) == 0, Down: r.IntN(2) == 0}
		got := impl.CountEdges(c, list)
		for cut := range len(list) + 1 {
			if parts := impl.CountEdges(impl.CountEdges(c, list[:cut]), list[cut:]); parts != got {
				t.Fatalf("CountEdges(%+v, %v) = %+v, but %+v when cut at %d", c, list, got, parts, cut)
			}
		}
	}
}

// P53: at most 200 values are counted, so at most 100 edges; for more values there is no counter.
func TestLengthOfCountedSignals(t *testing.T) {
	for _, size := range []int{0, 1, 2, 199, 200, 201, 202, 256, 400, 456, 1000, 70000} {
		list := make([]bool, size)
		for n := range list {
			list[n] = n%2 == 1
		}
		for _, c := range withEveryState(impl.Counter{}, impl.Counter{Preset: 50, Value: 40}, impl.Counter{Preset: 3, Value: mostCount}) {
			got := impl.CountEdges(c, list)
			if size > 200 && got != (impl.Counter{}) {
				t.Errorf("CountEdges(%+v, %d values) = %+v", c, size, got)
			}
			if size <= 200 && (got.Value != min(c.Value+size/2, mostCount) || got.Preset != c.Preset) {
				t.Errorf("CountEdges(%+v, %d values) = %+v", c, size, got)
			}
		}
	}
}

// The values and their spare capacity are not changed, and nothing is kept of them.
func TestCountEdgesChangesNoArgument(t *testing.T) {
	tooLong := runs(201, func() int { return 4 })
	for _, c := range []impl.Counter{{}, {Preset: 5, Value: 3, Up: true}, {Value: mostCount, Down: true}, {Value: -1}} {
		for _, list := range append(longSignals(), nil, []bool{}, []bool{true}, []bool{false, true}, tooLong) {
			checkOwnMemory(t, "CountEdges", impl.Image{Bits: list}, func(m impl.Image) impl.Image {
				got := impl.CountEdges(c, m.Bits)
				return impl.Image{Bits: []bool{got.Up, got.Down}, Words: []int{got.Preset, got.Value}}
			})
		}
	}
}

// Values in the spare capacity of a signal are not counted.
func TestSpareCapacityOfCountedSignals(t *testing.T) {
	list := slices.Repeat([]bool{true, false}, 150)
	for _, size := range []int{0, 1, 2, 3, 4, 199, 200} {
		want := impl.Counter{Value: (size + 1) / 2, Up: size%2 == 1}
		if got := impl.CountEdges(impl.Counter{}, list[:size]); got != want {
			t.Errorf("%d values: %+v", size, got)
		}
	}
}
