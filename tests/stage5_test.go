package tests

import (
	"math"
	"math/rand/v2"
	"slices"
	"testing"

	"loop.example/plcruntime/impl"
)

// The limits and the kinds are repeated here as numbers of the document's table, so that a wrong constant is found.
const (
	mostPreset = 10000
	mostStep   = 1000
	mostInputs = 200
)

const (
	timerOn    = 1
	timerOff   = 2
	timerPulse = 3
)

var timerKinds = []int{timerOn, timerOff, timerPulse}

// unknownTimers are numbers that are not kinds of timers.
var unknownTimers = append([]int{0, 4, 5, 6, 7, -2, -3, 257, 258, 1 << 32, 1<<32 + 1, 1<<32 + 3}, extremes...)

// presets are preset times in range, and wrongPresets such ones out of range.
var (
	presets      = []int{0, 1, 2, 3, 10, 20, 255, 256, 999, 1000, 1001, 9999, mostPreset}
	wrongPresets = []int{-1, mostPreset + 1, -2, -20, -mostPreset, mostPreset + 2, 20000, 32768, 65536, 1 << 32, 1<<32 + 20, -1 << 32, math.MinInt, math.MinInt + 1, math.MaxInt}
)

// stepTimes are times of a step in range, and wrongStepTimes such ones out of range.
var (
	stepTimes      = []int{0, 1, 2, 3, 9, 10, 11, 255, 256, 500, 999, mostStep}
	wrongStepTimes = []int{-1, mostStep + 1, -2, -10, -mostStep, mostStep + 2, mostPreset, 32768, 65536, 1 << 32, 1<<32 + 10, -1 << 32, math.MinInt, math.MinInt + 1, math.MaxInt}
)

// wantTimerValid is TimerValid by the document's sentence.
func wantTimerValid(t impl.Timer) bool {
	return slices.Contains(timerKinds, t.Kind) && 0 <= t.Preset && t.Preset <= mostPreset && 0 <= t.Elapsed && t.Elapsed <= t.Preset
}

// wantStep is TimerStep by the document's sentences, for a valid timer and a time in range.
func wantStep(t impl.Timer, in bool, dt int) impl.Timer {
	next := impl.Timer{Kind: t.Kind, Preset: t.Preset, Elapsed: t.Elapsed + dt, Before: in}
	if next.Elapsed > t.Preset {
		next.Elapsed = t.Preset
	}
	restarts := false
	switch t.Kind {
	case timerOn:
		restarts = !in || !t.Before
	case timerOff:
		restarts = in
	case timerPulse:
		restarts = in && !t.Before && (!t.Out || t.Elapsed == t.Preset)
	}
	if restarts {
		next.Elapsed = 0
	}
	switch {
	case t.Kind == timerOn:
		next.Out = in && next.Elapsed == t.Preset
	case t.Kind == timerOff && in:
		next.Out = true
	case t.Kind == timerPulse && restarts:
		next.Out = t.Preset > 0
	default:
		next.Out = t.Out && next.Elapsed < t.Preset
	}
	return next
}

// validTimers are timers of all kinds with every combination of input before and output, and elapsed times from 0 to the preset time.
func validTimers() []impl.Timer {
	var list []impl.Timer
	for _, kind := range timerKinds {
		for _, preset := range presets {
			times := []int{0, preset / 3, max(preset-10, 0), max(preset-1, 0), preset, min(1, preset)}
			slices.Sort(times)
			for _, elapsed := range slices.Compact(times) {
				for _, values := range allRows(2) {
					list = append(list, impl.Timer{Kind: kind, Preset: preset, Elapsed: elapsed, Before: values[0], Out: values[1]})
				}
			}
		}
	}
	return list
}

// invalidTimers are timers that are invalid for one reason each, with every combination of input before and output, and the zero value.
func invalidTimers() []impl.Timer {
	var states []impl.Timer
	for _, kind := range unknownTimers {
		states = append(states, impl.Timer{Kind: kind, Preset: 20, Elapsed: 10})
	}
	for _, kind := range timerKinds {
		for _, preset := range wrongPresets {
			states = append(states, impl.Timer{Kind: kind, Preset: preset}, impl.Timer{Kind: kind, Preset: preset, Elapsed: preset})
		}
		for _, preset := range presets {
			for _, elapsed := range []int{-1, preset + 1, -2, -preset - 1, -mostStep, preset + 2, preset + mostStep, preset + 1<<32, math.MinInt, math.MaxInt} {
				states = append(states, impl.Timer{Kind: kind, Preset: preset, Elapsed: elapsed})
			}
		}
	}
	list := []impl.Timer{{}}
	for _, timer := range states {
		for _, values := range allRows(2) {
			timer.Before, timer.Out = values[0], values[1]
			list = append(list, timer)
		}
	}
	return list
}

func TestTimerConstants(t *testing.T) {
	if impl.TimerOn != timerOn || impl.TimerOff != timerOff || impl.TimerPulse != timerPulse {
		t.Fatal(impl.TimerOn, impl.TimerOff, impl.TimerPulse)
	}
	if impl.MaxPreset != mostPreset || impl.MaxStep != mostStep {
		t.Fatal(impl.MaxPreset, impl.MaxStep)
	}
}

// P42: every combination of a kind, a preset time and an elapsed time, within and outside of their ranges.
func TestTimerValid(t *testing.T) {
	for _, kind := range slices.Concat(timerKinds, unknownTimers) {
		for _, preset := range slices.Concat(presets, wrongPresets) {
			for _, elapsed := range slices.Concat(presets, wrongPresets, []int{preset - 1, preset, preset + 1}) {
				for _, values := range allRows(2) {
					timer := impl.Timer{Kind: kind, Preset: preset, Elapsed: elapsed, Before: values[0], Out: values[1]}
					if got := impl.TimerValid(timer); got != wantTimerValid(timer) {
						t.Fatalf("TimerValid(%+v) = %v", timer, got)
					}
				}
			}
		}
	}
}

// P42: an elapsed time beyond the preset time, or an unknown kind, makes a valid timer invalid.
func TestChangedTimersAreInvalid(t *testing.T) {
	for _, timer := range validTimers() {
		if !impl.TimerValid(timer) {
			t.Fatalf("%+v is invalid", timer)
		}
		beyond, below := timer, timer
		beyond.Elapsed, below.Elapsed = timer.Preset+1, -1
		if impl.TimerValid(beyond) || impl.TimerValid(below) {
			t.Fatalf("%+v or %+v is valid", beyond, below)
		}
		for _, kind := range unknownTimers {
			unknown := timer
			unknown.Kind = kind
			if impl.TimerValid(unknown) {
				t.Fatalf("%+v is valid", unknown)
			}
		}
	}
	for _, timer := range invalidTimers() {
		if impl.TimerValid(timer) {
			t.Fatalf("%+v is valid", timer)
		}
	}
}

// P43: new timers are valid for every preset time in range, and off.
func TestNewTimer(t *testing.T) {
	for preset := range mostPreset + 1 {
		for _, want := range []impl.Timer{
			{Kind: timerOn, Preset: preset, Elapsed: 0},
			{Kind: timerOff, Preset: preset, Elapsed: preset},
			{Kind: timerPulse, Preset: preset, Elapsed: preset},
		} {
			got := impl.NewTimer(want.Kind, preset)
			if got != want || !impl.TimerValid(got) {
				t.Fatalf("NewTimer(%d, %d) = %+v", want.Kind, preset, got)
			}
		}
	}
}

// P43: for unknown kinds and preset times out of range there is no timer, and the zero value is invalid.
func TestNewTimerOutOfRange(t *testing.T) {
	for _, kind := range slices.Concat(timerKinds, unknownTimers) {
		for _, preset := range slices.Concat(presets, wrongPresets) {
			want := slices.Contains(timerKinds, kind) && slices.Contains(presets, preset)
			got := impl.NewTimer(kind, preset)
			if impl.TimerValid(got) != want || !want && got != (impl.Timer{}) {
				t.Fatalf("NewTimer(%d, %d) = %+v", kind, preset, got)
			}
		}
	}
}

// P43: the output of a new timer stays false while its input is false.
func TestNewTimersStayOff(t *testing.T) {
	off := make([]bool, mostInputs)
	for _, kind := range timerKinds {
		for _, preset := range presets {
			for _, dt := range stepTimes {
				timer := impl.NewTimer(kind, preset)
				if got := impl.TimerTrace(timer, off, dt); !slices.Equal(got, off) {
					t.Errorf("kind %d, preset %d, steps of %d: %v", kind, preset, dt, got)
				}
				for range 30 {
					timer = impl.TimerStep(timer, false, dt)
					if timer.Out || timer.Before || timer.Kind != kind {
						t.Fatalf("kind %d, preset %d, steps of %d: %+v", kind, preset, dt, timer)
					}
				}
			}
		}
	}
}

// elapsedOut is what a step changes beside the input.
type elapsedOut struct {
	elapsed int
	out     bool
}

// stepCases are steps of every kind with every combination of the input, the input before and the output.
// The preset time is 20. within: from 5 with the time 10. reached: from 5 with 15, or more, which would pass the preset time. ended: from 20 with 10.
// instant is the output with the preset time 0; its elapsed time is 0.
var stepCases = []struct {
	kind                   int
	in, before, out        bool
	within, reached, ended elapsedOut
	instant                bool
}{
	{timerOn, false, false, false, elapsedOut{0, false}, elapsedOut{0, false}, elapsedOut{0, false}, false},
	{timerOn, false, false, true, elapsedOut{0, false}, elapsedOut{0, false}, elapsedOut{0, false}, false},
	{timerOn, false, true, false, elapsedOut{0, false}, elapsedOut{0, false}, elapsedOut{0, false}, false},
	{timerOn, false, true, true, elapsedOut{0, false}, elapsedOut{0, false}, elapsedOut{0, false}, false},
	{timerOn, true, false, false, elapsedOut{0, false}, elapsedOut{0, false}, elapsedOut{0, false}, true},
	{timerOn, true, false, true, elapsedOut{0, false}, elapsedOut{0, false}, elapsedOut{0, false}, true},
	{timerOn, true, true, false, elapsedOut{15, false}, elapsedOut{20, true}, elapsedOut{20, true}, true},
	{timerOn, true, true, true, elapsedOut{15, false}, elapsedOut{20, true}, elapsedOut{20, true}, true},

	{timerOff, false, false, false, elapsedOut{15, false}, elapsedOut{20, false}, elapsedOut{20, false}, false},
	{timerOff, false, false, true, elapsedOut{15, true}, elapsedOut{20, false}, elapsedOut{20, false}, false},
	{timerOff, false, true, false, elapsedOut{15, false}, elapsedOut{20, false}, elapsedOut{20, false}, false},
	{timerOff, false, true, true, elapsedOut{15, true}, elapsedOut{20, false}, elapsedOut{20, false}, false},
	{timerOff, true, false, false, elapsedOut{0, true}, elapsedOut{0, true}, elapsedOut{0, true}, true},
	{timerOff, true, false, true, elapsedOut{0, true}, elapsedOut{0, true}, elapsedOut{0, true}, true},
	{timerOff, true, true, false, elapsedOut{0, true}, elapsedOut{0, true}, elapsedOut{0, true}, true},
	{timerOff, true, true, true, elapsedOut{0, true}, elapsedOut{0, true}, elapsedOut{0, true}, true},

	{timerPulse, false, false, false, elapsedOut{15, false}, elapsedOut{20, false}, elapsedOut{20, false}, false},
	{timerPulse, false, false, true, elapsedOut{15, true}, elapsedOut{20, false}, elapsedOut{20, false}, false},
	{timerPulse, false, true, false, elapsedOut{15, false}, elapsedOut{20, false}, elapsedOut{20, false}, false},
	{timerPulse, false, true, true, elapsedOut{15, true}, elapsedOut{20, false}, elapsedOut{20, false}, false},
	{timerPulse, true, false, false, elapsedOut{0, true}, elapsedOut{0, true}, elapsedOut{0, true}, false},
	{timerPulse, true, false, true, elapsedOut{15, true}, elapsedOut{20, false}, elapsedOut{0, true}, false},
	{timerPulse, true, true, false, elapsedOut{15, false}, elapsedOut{20, false}, elapsedOut{20, false}, false},
	{timerPulse, true, true, true, elapsedOut{15, true}, elapsedOut{20, false}, elapsedOut{20, false}, false},
}

func TestTimerStepOfCases(t *testing.T) {
	for _, c := range stepCases {
		for _, s := range []struct {
			preset, elapsed, dt int
			want                elapsedOut
		}{
			{20, 5, 10, c.within},
			{20, 5, 15, c.reached},
			{20, 5, 16, c.reached},
			{20, 5, mostStep, c.reached},
			{20, 20, 10, c.ended},
			{20, 20, 0, c.ended},
			{0, 0, 0, elapsedOut{0, c.instant}},
			{0, 0, 10, elapsedOut{0, c.instant}},
			{0, 0, mostStep, elapsedOut{0, c.instant}},
		} {
			timer := impl.Timer{Kind: c.kind, Preset: s.preset, Elapsed: s.elapsed, Before: c.before, Out: c.out}
			want := impl.Timer{Kind: c.kind, Preset: s.preset, Elapsed: s.want.elapsed, Before: c.in, Out: s.want.out}
			if got := impl.TimerStep(timer, c.in, s.dt); got != want {
				t.Errorf("TimerStep(%+v, %v, %d) = %+v", timer, c.in, s.dt, got)
			}
		}
	}
}

// P44: a step leads to a valid timer of the same kind and preset time that remembers the input; its elapsed time grows by at most dt, or is 0.
func TestTimerStep(t *testing.T) {
	for _, timer := range validTimers() {
		for _, dt := range stepTimes {
			for _, in := range bothValues {
				got := impl.TimerStep(timer, in, dt)
				if got != wantStep(timer, in, dt) {
					t.Fatalf("TimerStep(%+v, %v, %d) = %+v", timer, in, dt, got)
				}
				checkStep(t, timer, in, dt, got)
			}
		}
	}
}

// checkStep checks the sentence of P44 alone.
func checkStep(t *testing.T, timer impl.Timer, in bool, dt int, got impl.Timer) {
	t.Helper()
	if !impl.TimerValid(got) || got.Kind != timer.Kind || got.Preset != timer.Preset || got.Before != in {
		t.Fatalf("TimerStep(%+v, %v, %d) = %+v", timer, in, dt, got)
	}
	if got.Elapsed != 0 && got.Elapsed > timer.Elapsed+dt {
		t.Fatalf("TimerStep(%+v, %v, %d) = %+v: too much time elapses", timer, in, dt, got)
	}
}

// P44: over many steps with changing inputs and times, beginning with new timers.
func TestTimerStepsFollowReference(t *testing.T) {
	r := rand.New(rand.NewPCG(44, 0))
	for n := range 600 {
		timer := impl.NewTimer(timerKinds[n%3], presets[r.IntN(len(presets))])
		want := timer
		most := 1 + r.IntN(mostStep+1)
		for range 300 {
			in, dt := r.IntN(4) == 0 != want.Before, r.IntN(most)
			got := impl.TimerStep(timer, in, dt)
			checkStep(t, timer, in, dt, got)
			want = wantStep(want, in, dt)
			if got != want {
				t.Fatalf("TimerStep(%+v, %v, %d) = %+v", timer, in, dt, got)
			}
			timer = got
		}
	}
}

func TestTimerStepOfInvalidArguments(t *testing.T) {
	for _, timer := range invalidTimers() {
		for _, in := range bothValues {
			for _, dt := range []int{0, 1, 10, mostStep, -1, mostStep + 1} {
				if got := impl.TimerStep(timer, in, dt); got != (impl.Timer{}) {
					t.Fatalf("TimerStep(%+v, %v, %d) = %+v", timer, in, dt, got)
				}
			}
		}
	}
	for _, timer := range validTimers() {
		for _, in := range bothValues {
			for _, dt := range wrongStepTimes {
				if got := impl.TimerStep(timer, in, dt); got != (impl.Timer{}) {
					t.Fatalf("TimerStep(%+v, %v, %d) = %+v", timer, in, dt, got)
				}
			}
		}
	}
}

// parse returns the signal that a text of zeros and ones stands for.
func parse(s string) []bool {
	list := make([]bool, len(s))
	for n := range list {
		list[n] = s[n] == '1'
	}
	return list
}

func TestTimerTraceOfCases(t *testing.T) {
	cases := []struct {
		name         string
		kind, preset int
		dt           int
		in, out      string
	}{
		{"no inputs", timerOn, 20, 10, "", ""},
		{"on-delay", timerOn, 20, 10, "01111011111", "00011000111"},
		{"on-delay, false before the preset time", timerOn, 20, 10, "1101110111", "0000010001"},
		{"on-delay, false in the step of the preset time", timerOn, 20, 10, "110110", "000000"},
		{"on-delay, false after the preset time", timerOn, 20, 10, "11101110", "00100010"},
		{"on-delay, single values", timerOn, 20, 10, "1010101", "0000000"},
		{"on-delay, a step would pass the preset time", timerOn, 25, 10, "111110", "000110"},
		{"on-delay, a step as long as the preset time", timerOn, 10, 10, "1101", "0100"},
		{"on-delay, no time", timerOn, 20, 0, "1111", "0000"},
		{"on-delay, preset time 0", timerOn, 0, 10, "0110100", "0110100"},
		{"on-delay, preset time 0, no time", timerOn, 0, 0, "0110100", "0110100"},
		{"off-delay", timerOff, 20, 10, "0110000", "0111000"},
		{"off-delay, true while it holds", timerOff, 20, 10, "1010010000", "1111011000"},
		{"off-delay, true in the step in which it ends", timerOff, 20, 10, "1001000", "1101100"},
		{"off-delay, true after it ends", timerOff, 30, 10, "1000010000", "1110011100"},
		{"off-delay, a step would pass the preset time", timerOff, 25, 10, "10000", "11100"},
		{"off-delay, a step as long as the preset time", timerOff, 10, 10, "1001", "1001"},
		{"off-delay, no time", timerOff, 20, 0, "010000", "011111"},
		{"off-delay, preset time 0", timerOff, 0, 10, "0110100", "0110100"},
		{"off-delay, preset time 0, no time", timerOff, 0, 0, "0110100", "0110100"},
		{"pulse, true for long", timerPulse, 20, 10, "0111110", "0110000"},
		{"pulse, true for a step", timerPulse, 20, 10, "0100000", "0110000"},
		{"pulse, a second edge during it", timerPulse, 30, 10, "101000", "111000"},
		{"pulse, several edges during it", timerPulse, 50, 10, "10101010", "11111011"},
		{"pulse, a second edge during it that stays true", timerPulse, 30, 10, "101111", "111000"},
		{"pulse, an edge in the step in which it ends", timerPulse, 30, 10, "1001000", "1110000"},
		{"pulse, an edge in the step in which it ends that stays true", timerPulse, 30, 10, "1001111", "1110000"},
		{"pulse, an edge in the step after it", timerPulse, 30, 10, "10001000", "11101110"},
		{"pulse, edges in the step in which it ends and two steps later", timerPulse, 30, 10, "10010100", "11100111"},
		{"pulse, a step would pass the preset time", timerPulse, 25, 10, "111111", "111000"},
		{"pulse, a step as long as the preset time", timerPulse, 10, 10, "110100", "100100"},
		{"pulse, edges every second step", timerPulse, 10, 10, "10101", "10101"},
		{"pulse, no time", timerPulse, 20, 0, "010010", "011111"},
		{"pulse, preset time 0", timerPulse, 0, 10, "0110100", "0000000"},
		{"pulse, preset time 0, no time", timerPulse, 0, 0, "0110100", "0000000"},
	}
	for _, c := range cases {
		if got := impl.TimerTrace(impl.NewTimer(c.kind, c.preset), parse(c.in), c.dt); !slices.Equal(got, parse(c.out)) {
			t.Errorf("%s: %v for %s", c.name, got, c.in)
		}
	}
}

// trace returns the outputs of a timer, step by step, for any number of inputs, and the timer after them.
func trace(timer impl.Timer, list []bool, dt int) ([]bool, impl.Timer) {
	outputs := make([]bool, len(list))
	for n, in := range list {
		timer = impl.TimerStep(timer, in, dt)
		outputs[n] = timer.Out
	}
	return outputs, timer
}

// P45: a trace has the outputs of the steps, for any valid timer.
func TestTimerTrace(t *testing.T) {
	r := rand.New(rand.NewPCG(45, 0))
	for _, timer := range validTimers() {
		for _, dt := range []int{0, 1, 10, 1 + r.IntN(mostStep), mostStep} {
			list := runs(r.IntN(40), func() int { return 1 + r.IntN(5) })
			kept := timer
			got := impl.TimerTrace(timer, list, dt)
			if want, _ := trace(timer, list, dt); !slices.Equal(got, want) || timer != kept {
				t.Fatalf("TimerTrace(%+v, %v, %d) = %v", kept, list, dt, got)
			}
		}
	}
}

// P45: wherever it is cut, a trace is that of its first part, and then that of its second part with the timer after the first one.
func TestTracesCanBeContinued(t *testing.T) {
	r := rand.New(rand.NewPCG(45, 1))
	for _, size := range []int{0, 1, 2, 7, 60, 199, mostInputs} {
		for n := range 60 {
			timer := impl.NewTimer(timerKinds[n%3], r.IntN(400))
			list := runs(size, func() int { return 1 + r.IntN(9) })
			dt := r.IntN(60)
			got := impl.TimerTrace(timer, list, dt)
			for cut := range size + 1 {
				first := impl.TimerTrace(timer, list[:cut], dt)
				_, later := trace(timer, list[:cut], dt)
				second := impl.TimerTrace(later, list[cut:], dt)
				if !slices.Equal(got, slices.Concat(first, second)) || len(got) != size {
					t.Fatalf("TimerTrace(%+v, %v, %d) = %v, but %v and %v", timer, list, dt, got, first, second)
				}
			}
		}
	}
}

// Traces have at most 200 inputs.
func TestLengthOfTimerTraces(t *testing.T) {
	for _, size := range []int{0, 1, 199, 200, 201, 202, 256, 400, 456, 1000, 70000} {
		list := runs(size, func() int { return 3 })
		want := size
		if size > mostInputs {
			want = 0
		}
		for _, kind := range timerKinds {
			for _, preset := range []int{0, 20, mostPreset} {
				for _, dt := range []int{0, 10, mostStep} {
					if got := impl.TimerTrace(impl.NewTimer(kind, preset), list, dt); len(got) != want {
						t.Errorf("kind %d, preset %d, steps of %d: %d outputs for %d inputs", kind, preset, dt, len(got), size)
					}
				}
			}
		}
	}
}

func TestTimerTraceOfInvalidArguments(t *testing.T) {
	lists := [][]bool{nil, {true}, {false, true}, slices.Repeat([]bool{true}, mostInputs), slices.Repeat([]bool{true}, mostInputs+1)}
	for _, list := range lists {
		for _, timer := range invalidTimers() {
			for _, dt := range []int{0, 10, mostStep} {
				if got := impl.TimerTrace(timer, list, dt); len(got) != 0 {
					t.Fatalf("TimerTrace(%+v, %d inputs, %d) = %v", timer, len(list), dt, got)
				}
			}
		}
		for _, kind := range timerKinds {
			for _, dt := range wrongStepTimes {
				if got := impl.TimerTrace(impl.NewTimer(kind, 20), list, dt); len(got) != 0 {
					t.Fatalf("kind %d, %d inputs, steps of %d: %v", kind, len(list), dt, got)
				}
			}
		}
	}
}

// multiple is a preset time of count steps.
type multiple struct {
	count, dt int
}

// multiples are preset times of at least so many steps of a time greater than 0, up to MaxPreset.
func multiples(least int) []multiple {
	var list []multiple
	for _, dt := range []int{1, 2, 3, 7, 10, 99, 256, 500, 999, mostStep} {
		most := mostPreset / dt
		counts := []int{0, 1, 2, 3, 5, 8, 10, 50, 150, 198, 199, 200, 201, most - 1, most}
		slices.Sort(counts)
		for _, count := range slices.Compact(counts) {
			if count >= least && count <= most {
				list = append(list, multiple{count, dt})
			}
		}
	}
	return list
}

// checkOutputs checks the outputs of a timer that is new for a preset time of some steps, and those of its trace as far as there can be one.
func checkOutputs(t *testing.T, kind int, m multiple, list []bool, want []bool) {
	t.Helper()
	timer := impl.NewTimer(kind, m.count*m.dt)
	got, _ := trace(timer, list, m.dt)
	if n := firstDifference(got, want); n >= 0 {
		t.Fatalf("kind %d, preset %d*%d: output %d is wrong", kind, m.count, m.dt, n)
	}
	part := min(len(list), mostInputs)
	if n := firstDifference(impl.TimerTrace(timer, list[:part], m.dt), want[:part]); n >= 0 {
		t.Fatalf("kind %d, preset %d*%d: output %d of the trace is wrong", kind, m.count, m.dt, n)
	}
}

// firstDifference returns the first index at which two lists differ; -1 if there is none.
func firstDifference(a []bool, b []bool) int {
	for n := range max(len(a), len(b)) {
		if n >= len(a) || n >= len(b) || a[n] != b[n] {
			return n
		}
	}
	return -1
}

// P46: the output of an on-delay with the preset time n * dt is false in the first n steps, and true from then on.
func TestOnDelaysDelay(t *testing.T) {
	const more = 15
	for _, m := range multiples(0) {
		list := slices.Repeat([]bool{true}, m.count+more)
		want := append(make([]bool, m.count), list[:more]...)
		checkOutputs(t, timerOn, m, list, want)
	}
}

// P47: after an edge the output of a pulse timer is true in n steps, whatever the input does, and then false if the input has stayed true.
func TestPulsesHaveALength(t *testing.T) {
	const more = 15
	r := rand.New(rand.NewPCG(47, 0))
	for _, m := range multiples(1) {
		stays := slices.Repeat([]bool{true}, m.count+more)
		want := append(slices.Repeat([]bool{true}, m.count), make([]bool, more)...)
		checkOutputs(t, timerPulse, m, stays, want)
		for range 6 {
			list := runs(m.count, func() int { return 1 + r.IntN(3) })
			checkOutputs(t, timerPulse, m, list, want[:m.count])
			// An edge in the step in which the pulse ends, and a true value after that, begin no new pulse.
			checkOutputs(t, timerPulse, m, append(list, stays[:more]...), want)
		}
	}
}

// P47: once the pulse has ended, and the input has been false, an edge begins a new one of the same length.
func TestPulsesAfterPulses(t *testing.T) {
	for _, m := range multiples(1) {
		if m.count > 300 {
			continue
		}
		for gap := 1; gap <= 4; gap++ {
			// After an edge and count - 1 further steps, the pulse ends in the first step of the gap.
			list := slices.Repeat(slices.Concat([]bool{true}, make([]bool, m.count-1+gap)), 3)
			want := slices.Repeat(slices.Concat(slices.Repeat([]bool{true}, m.count), make([]bool, gap)), 3)
			checkOutputs(t, timerPulse, m, list, want)
		}
	}
}

// P48: after a true input the output of an off-delay stays true in n - 1 steps with a false input, and is false from then on.
func TestOffDelaysHold(t *testing.T) {
	const more = 15
	for _, m := range multiples(1) {
		for _, trues := range []int{1, 2, 30} {
			list := slices.Concat(slices.Repeat([]bool{true}, trues), make([]bool, m.count+more))
			want := slices.Concat(slices.Repeat([]bool{true}, trues+m.count-1), make([]bool, more+1))
			checkOutputs(t, timerOff, m, list, want)
		}
	}
}

// P48: a true input while an off-delay holds begins its time again.
func TestOffDelaysHoldAgain(t *testing.T) {
	for _, m := range multiples(2) {
		if m.count > 300 {
			continue
		}
		hold := make([]bool, m.count-1)
		list := slices.Concat([]bool{true}, hold, []bool{true}, hold, []bool{true}, hold, make([]bool, 5))
		want := append(slices.Repeat([]bool{true}, 3*m.count), make([]bool, 5)...)
		checkOutputs(t, timerOff, m, list, want)
	}
}

// The inputs and their spare capacity are neither changed nor part of the outputs, and outputs are independent of each other.
func TestTimerTracesHaveOwnMemory(t *testing.T) {
	tooLong := runs(mostInputs+1, func() int { return 4 })
	for _, timer := range []impl.Timer{impl.NewTimer(timerOn, 20), impl.NewTimer(timerOff, 20), impl.NewTimer(timerPulse, 20), impl.NewTimer(timerOn, 0), {}} {
		for _, dt := range []int{0, 10, mostStep, mostStep + 1} {
			for _, list := range append(longSignals(), nil, []bool{}, []bool{true}, []bool{false, true}, tooLong) {
				checkOwnMemory(t, "TimerTrace", impl.Image{Bits: list}, func(m impl.Image) impl.Image {
					return impl.Image{Bits: impl.TimerTrace(timer, m.Bits, dt)}
				})
			}
		}
	}
}

// Values in the spare capacity of the inputs are not among them.
func TestSpareCapacityOfTimerTraces(t *testing.T) {
	list := slices.Repeat([]bool{true}, mostInputs+50)
	for _, size := range []int{0, 1, 2, 3, 4, mostInputs} {
		got := impl.TimerTrace(impl.NewTimer(timerOn, 20), list[:size], 10)
		if want := append(make([]bool, min(size, 2)), list[min(size, 2):size]...); !slices.Equal(got, want) {
			t.Errorf("%d inputs: %v", size, got)
		}
	}
}
