package tests

import (
	"math"
	"math/rand/v2"
	"slices"
	"testing"

	"loop.example/plcruntime/impl"
)

// The limits are repeated here as numbers of the document's table and text, so that a wrong constant is found.
const (
	mostGain     = 4096
	mostMeasured = 200
)

// gains are gains in range, and wrongGains such ones out of range; outputRanges are limits of outputs.
var (
	gains        = []int{0, 1, 2, 3, 100, 255, 256, 257, 1000, mostGain - 1, mostGain}
	wrongGains   = append([]int{-1, mostGain + 1, -2, -256, -mostGain, mostGain + 2, 8192, topWord, lowWord}, noWords...)
	outputRanges = [][2]int{{0, 100}, {-100, 100}, {-100, -10}, {10, 100}, {0, 0}, {7, 7}, {-7, -7}, {-1, 0}, {0, 1}, {-3, 5}, {lowWord, topWord}, {lowWord, 0}, {0, topWord}, {lowWord, lowWord}, {topWord, topWord}, {lowWord, lowWord + 1}, {topWord - 1, topWord}}
)

// nearestIn moves a number to the nearest one in low..high.
func nearestIn(x int, low int, high int) int {
	if x < low {
		return low
	}
	if x > high {
		return high
	}
	return x
}

// integralsOf returns integrals for limits of the output: at the ends of their range, beside them, and in between, whole ones and others.
func integralsOf(low int, high int) []int {
	var list []int
	for _, x := range []int{256 * low, 256*low + 1, 256*low + 255, 256*low + 256, -257, -256, -255, -128, -1, 0, 1, 128, 255, 256, 257, 128 * (low + high), 256*high - 256, 256*high - 255, 256*high - 1, 256 * high} {
		if x >= 256*low && x <= 256*high && !slices.Contains(list, x) {
			list = append(list, x)
		}
	}
	return list
}

// validControllers are controllers with gains of all sizes, limits and integrals.
func validControllers() []impl.Control {
	gainsOf := [][3]int{{0, 0, 0}, {256, 0, 0}, {0, 256, 0}, {0, 0, 256}, {1, 1, 1}, {128, 3, 0}, {0, 1, 100}, {255, 257, 1000}, {512, 64, 128}, {mostGain, mostGain, mostGain}, {mostGain, 0, mostGain}}
	var list []impl.Control
	for _, k := range gainsOf {
		for _, ends := range outputRanges {
			for n, sum := range integralsOf(ends[0], ends[1]) {
				last := []int{0, lowWord, topWord, -5, 1234}[n%5]
				list = append(list, impl.Control{Kp: k[0], Ki: k[1], Kd: k[2], Low: ends[0], High: ends[1], Sum: sum, Last: last})
			}
		}
	}
	return list
}

// someControl returns a valid controller; its limits are often near each other.
func someControl(r *rand.Rand) impl.Control {
	gain := func() int {
		if r.IntN(2) == 0 {
			return gains[r.IntN(len(gains))]
		}
		return r.IntN(mostGain + 1)
	}
	low, high := someWord(r), someWord(r)
	if r.IntN(2) == 0 {
		high = min(low+r.IntN(300), topWord)
	}
	if low > high {
		low, high = high, low
	}
	sum := 256*low + r.IntN(256*(high-low)+1)
	return impl.Control{Kp: gain(), Ki: gain(), Kd: gain(), Low: low, High: high, Sum: sum, Last: someWord(r)}
}

// withOneWrong returns variants of a valid controller that are each invalid for one reason.
func withOneWrong(c impl.Control) []impl.Control {
	var list []impl.Control
	for _, wrong := range wrongGains {
		p, i, d := c, c, c
		p.Kp, i.Ki, d.Kd = wrong, wrong, wrong
		list = append(list, p, i, d)
	}
	for _, wrong := range noWords {
		last := c
		last.Last = wrong
		list = append(list, last)
		// The limits stay in order, and the integral between them, so that only the limit itself is wrong.
		end := c
		if wrong < 0 {
			end.Low = wrong
		} else {
			end.High = wrong
		}
		list = append(list, end)
	}
	for _, beyond := range []int{1, 2, 255, 256, 257, 1 << 20, 1 << 33, 1 << 40} {
		below, above := c, c
		below.Sum, above.Sum = 256*c.Low-beyond, 256*c.High+beyond
		list = append(list, below, above)
	}
	for _, far := range []int{math.MinInt, math.MinInt + 1, math.MaxInt - 1, math.MaxInt} {
		sum := c
		sum.Sum = far
		list = append(list, sum)
	}
	if c.Low < c.High {
		exchanged := c
		exchanged.Low, exchanged.High = c.High, c.Low
		list = append(list, exchanged)
	}
	return list
}

// invalidControllers are controllers that are invalid for one reason each.
func invalidControllers() []impl.Control {
	var list []impl.Control
	for n, c := range validControllers() {
		// Every 37th one has other gains and other limits than the one before it.
		if n%37 == 0 {
			list = append(list, withOneWrong(c)...)
		}
	}
	return list
}

func TestControllerConstants(t *testing.T) {
	if impl.MaxGain != mostGain {
		t.Fatal(impl.MaxGain)
	}
}

// P61: each gain at and beside the ends of its range, the others valid.
func TestGainsOfControllers(t *testing.T) {
	for _, k := range slices.Concat(gains, wrongGains) {
		want := k >= 0 && k <= 4096
		for _, other := range []int{0, 1, 4096} {
			for _, c := range []impl.Control{{Kp: k, Ki: other, Kd: other}, {Kp: other, Ki: k, Kd: other}, {Kp: other, Ki: other, Kd: k}} {
				if got := impl.ControlValid(c); got != want {
					t.Errorf("ControlValid(%+v) = %v", c, got)
				}
			}
		}
	}
}

// P61: limits, integrals and last measured values at, just inside and just outside their ranges, written by hand.
func TestControlValidOfCases(t *testing.T) {
	cases := []struct {
		name string
		c    impl.Control
		want bool
	}{
		{"the zero value", impl.Control{}, true},
		{"ordinary limits", impl.Control{Low: -10, High: 20}, true},
		{"equal limits", impl.Control{Low: 7, High: 7, Sum: 1792}, true},
		{"equal limits, integral below", impl.Control{Low: 7, High: 7, Sum: 1791}, false},
		{"equal limits, integral above", impl.Control{Low: 7, High: 7, Sum: 1793}, false},
		{"equal negative limits", impl.Control{Low: -7, High: -7, Sum: -1792}, true},
		{"equal negative limits, integral below", impl.Control{Low: -7, High: -7, Sum: -1793}, false},
		{"equal negative limits, integral above", impl.Control{Low: -7, High: -7, Sum: -1791}, false},
		{"exchanged limits", impl.Control{Low: 1, High: 0}, false},
		{"exchanged limits, integral at the low one", impl.Control{Low: 1, High: 0, Sum: 256}, false},
		{"exchanged limits, integral between them", impl.Control{Low: 10, High: -10}, false},
		{"exchanged ends of the words", impl.Control{Low: 32767, High: -32768}, false},
		{"all words", impl.Control{Low: -32768, High: 32767}, true},
		{"a low limit below the words", impl.Control{Low: -32769, High: 32767}, false},
		{"a high limit above the words", impl.Control{Low: -32768, High: 32768}, false},
		{"equal limits above the words", impl.Control{Low: 32768, High: 32768, Sum: 256 * 32768}, false},
		{"equal limits below the words", impl.Control{Low: -32769, High: -32769, Sum: -256 * 32769}, false},
		{"equal greatest limits", impl.Control{Low: 32767, High: 32767, Sum: 8388352}, true},
		{"equal least limits", impl.Control{Low: -32768, High: -32768, Sum: -8388608}, true},
		{"the greatest integral", impl.Control{Low: -32768, High: 32767, Sum: 8388352}, true},
		{"above the greatest integral", impl.Control{Low: -32768, High: 32767, Sum: 8388353}, false},
		{"the least integral", impl.Control{Low: -32768, High: 32767, Sum: -8388608}, true},
		{"below the least integral", impl.Control{Low: -32768, High: 32767, Sum: -8388609}, false},
		{"integral just inside the high end", impl.Control{Low: -10, High: 20, Sum: 5119}, true},
		{"integral at the high end", impl.Control{Low: -10, High: 20, Sum: 5120}, true},
		{"integral just outside the high end", impl.Control{Low: -10, High: 20, Sum: 5121}, false},
		{"integral just inside the low end", impl.Control{Low: -10, High: 20, Sum: -2559}, true},
		{"integral at the low end", impl.Control{Low: -10, High: 20, Sum: -2560}, true},
		{"integral just outside the low end", impl.Control{Low: -10, High: 20, Sum: -2561}, false},
		{"positive limits without an integral", impl.Control{Low: 1, High: 5}, false},
		{"negative limits without an integral", impl.Control{Low: -5, High: -1}, false},
		{"last measured value at the top", impl.Control{Last: 32767}, true},
		{"last measured value above the top", impl.Control{Last: 32768}, false},
		{"last measured value at the bottom", impl.Control{Last: -32768}, true},
		{"last measured value below the bottom", impl.Control{Last: -32769}, false},
		{"last measured value outside the limits", impl.Control{High: 5, Last: 1000}, true},
		{"the greatest gains", impl.Control{Kp: 4096, Ki: 4096, Kd: 4096}, true},
	}
	for _, c := range cases {
		if got := impl.ControlValid(c.c); got != c.want {
			t.Errorf("%s: ControlValid(%+v) = %v", c.name, c.c, got)
		}
	}
}

// P61: every integral in and around the ranges of near limits.
func TestIntegralsOfControllers(t *testing.T) {
	for low := -3; low <= 3; low++ {
		for high := -3; high <= 3; high++ {
			for sum := -1100; sum <= 1100; sum++ {
				c := impl.Control{Low: low, High: high, Sum: sum}
				want := low <= high && 256*low <= sum && sum <= 256*high
				if got := impl.ControlValid(c); got != want {
					t.Fatalf("ControlValid(%+v) = %v", c, got)
				}
			}
		}
	}
}

// P61: a valid controller becomes invalid by a single wrong gain, limit, integral or last measured value.
func TestChangedControllersAreInvalid(t *testing.T) {
	for _, c := range validControllers() {
		if !impl.ControlValid(c) {
			t.Fatalf("%+v is invalid", c)
		}
		for _, wrong := range withOneWrong(c) {
			if impl.ControlValid(wrong) {
				t.Fatalf("%+v is valid", wrong)
			}
		}
	}
}

// controlCases are steps written by hand, with the integral and the output after them.
var controlCases = []struct {
	name        string
	c           impl.Control
	want, have  int
	sum, output int
}{
	{"no gains", impl.Control{Low: -100, High: 100}, 50, 20, 0, 0},
	{"no gains, an integral", impl.Control{Low: -100, High: 100, Sum: 1000}, 50, 20, 1000, 3},
	{"no gains, a negative integral", impl.Control{Low: -100, High: 100, Sum: -1000}, 50, 20, -1000, -4},
	{"no gains, a whole negative integral", impl.Control{Low: -100, High: 100, Sum: -1024}, 50, 20, -1024, -4},
	{"proportional", impl.Control{Kp: 256, Low: -100, High: 100}, 50, 20, 0, 30},
	{"proportional, negative", impl.Control{Kp: 256, Low: -100, High: 100}, 20, 50, 0, -30},
	{"proportional, a half", impl.Control{Kp: 128, Low: -100, High: 100}, 3, 0, 0, 1},
	{"proportional, a negative half", impl.Control{Kp: 128, Low: -100, High: 100}, 0, 3, 0, -2},
	{"proportional, nearly 1", impl.Control{Kp: 1, Low: -100, High: 100}, 255, 0, 0, 0},
	{"proportional, 1", impl.Control{Kp: 1, Low: -100, High: 100}, 256, 0, 0, 1},
	{"proportional, a little below 0", impl.Control{Kp: 1, Low: -100, High: 100}, 0, 1, 0, -1},
	{"proportional, -1", impl.Control{Kp: 1, Low: -100, High: 100}, 0, 256, 0, -1},
	{"proportional, a little below -1", impl.Control{Kp: 1, Low: -100, High: 100}, 0, 257, 0, -2},
	{"integral", impl.Control{Ki: 256, Low: -100, High: 100}, 5, 0, 1280, 5},
	{"integral, once more", impl.Control{Ki: 256, Low: -100, High: 100, Sum: 1280}, 5, 0, 2560, 10},
	{"integral, negative", impl.Control{Ki: 256, Low: -100, High: 100, Sum: 1280}, 0, 7, -512, -2},
	{"integral, a little", impl.Control{Ki: 1, Low: -100, High: 100}, 1, 0, 1, 0},
	{"integral, a little below 0", impl.Control{Ki: 1, Low: -100, High: 100}, 0, 1, -1, -1},
	{"differential, growing", impl.Control{Kd: 256, Low: -100, High: 100, Last: 10}, 13, 13, 0, -3},
	{"differential, falling", impl.Control{Kd: 256, Low: -100, High: 100, Last: 13}, 10, 10, 0, 3},
	{"differential, unchanged", impl.Control{Kd: 256, Low: -100, High: 100, Last: 13}, 90, 13, 0, 0},
	{"differential, a half", impl.Control{Kd: 128, Low: -100, High: 100, Last: 13}, 10, 10, 0, 1},
	{"differential, a negative half", impl.Control{Kd: 128, Low: -100, High: 100, Last: 10}, 13, 13, 0, -2},
	{"all parts", impl.Control{Kp: 512, Ki: 64, Kd: 128, Low: -100, High: 100, Sum: 1000, Last: 7}, 20, 10, 1640, 24},
	{"all parts, negative", impl.Control{Kp: 512, Ki: 64, Kd: 128, Low: -100, High: 100, Sum: -1000, Last: 7}, -20, -10, -1640, -18},
	{"parts together are rounded once", impl.Control{Kp: 128, Ki: 128, Low: -100, High: 100, Sum: 0}, 1, 0, 128, 1},
	{"integral moved to the high end", impl.Control{Ki: 256, Low: -10, High: 10, Sum: 2000}, 5, 0, 2560, 10},
	{"integral reaches the high end", impl.Control{Ki: 256, Low: -10, High: 10, Sum: 1280}, 5, 0, 2560, 10},
	{"integral just inside the high end", impl.Control{Ki: 1, Low: -10, High: 10, Sum: 2557}, 2, 0, 2559, 9},
	{"integral just beyond the high end", impl.Control{Ki: 1, Low: -10, High: 10, Sum: 2559}, 2, 0, 2560, 10},
	{"integral stays at the high end", impl.Control{Ki: 256, Low: -10, High: 10, Sum: 2560}, 5, 0, 2560, 10},
	{"integral comes back from the high end", impl.Control{Ki: 256, Low: -10, High: 10, Sum: 2560}, 0, 1, 2304, 9},
	{"integral comes back a little from the high end", impl.Control{Ki: 1, Low: -10, High: 10, Sum: 2560}, 0, 1, 2559, 9},
	{"integral moved to the low end", impl.Control{Ki: 256, Low: -10, High: 10, Sum: -2000}, 0, 5, -2560, -10},
	{"integral reaches the low end", impl.Control{Ki: 256, Low: -10, High: 10, Sum: -1280}, 0, 5, -2560, -10},
	{"integral just inside the low end", impl.Control{Ki: 1, Low: -10, High: 10, Sum: -2557}, 0, 2, -2559, -10},
	{"integral just beyond the low end", impl.Control{Ki: 1, Low: -10, High: 10, Sum: -2559}, 0, 2, -2560, -10},
	{"integral stays at the low end", impl.Control{Ki: 256, Low: -10, High: 10, Sum: -2560}, 0, 5, -2560, -10},
	{"integral comes back from the low end", impl.Control{Ki: 256, Low: -10, High: 10, Sum: -2560}, 1, 0, -2304, -9},
	{"integral from one end to the other", impl.Control{Ki: 256, Low: -10, High: 10, Sum: -2560}, 30, 0, 2560, 10},
	{"integral moved to a low end above 0", impl.Control{Ki: 256, Low: 3, High: 10, Sum: 1000}, 0, 5, 768, 3},
	{"integral moved to a high end below 0", impl.Control{Ki: 256, Low: -10, High: -3, Sum: -1000}, 5, 0, -768, -3},
	{"output moved to the high limit", impl.Control{Kp: 256, Low: -10, High: 10, Sum: 256}, 100, 0, 256, 10},
	{"output moved to the low limit", impl.Control{Kp: 256, Low: -10, High: 10, Sum: 256}, 0, 100, 256, -10},
	{"output just inside the high limit", impl.Control{Kp: 1, Low: -10, High: 10}, 2559, 0, 0, 9},
	{"output at the high limit", impl.Control{Kp: 1, Low: -10, High: 10}, 2560, 0, 0, 10},
	{"output just beyond the high limit", impl.Control{Kp: 1, Low: -10, High: 10}, 2816, 0, 0, 10},
	{"output just inside the low limit", impl.Control{Kp: 1, Low: -10, High: 10}, 0, 2304, 0, -9},
	{"output at the low limit", impl.Control{Kp: 1, Low: -10, High: 10}, 0, 2560, 0, -10},
	{"output just beyond the low limit", impl.Control{Kp: 1, Low: -10, High: 10}, 0, 2561, 0, -10},
	{"output limited by the differential part", impl.Control{Kd: 256, Low: -10, High: 10, Last: 50}, 0, 0, 0, 10},
	{"the integral is limited before the output", impl.Control{Ki: 4096, Kd: 256, Low: 0, High: 10}, 105, 5, 2560, 5},
	{"the output is not limited part by part", impl.Control{Kp: 256, Kd: 256, Low: 0, High: 10, Last: -95}, 100, 0, 0, 5},
	{"equal limits", impl.Control{Kp: 256, Ki: 256, Kd: 256, Low: 7, High: 7, Sum: 1792}, 100, 0, 1792, 7},
	{"equal limits, negative error", impl.Control{Kp: 256, Ki: 256, Kd: 256, Low: 7, High: 7, Sum: 1792}, 0, 100, 1792, 7},
	{"greatest gains, greatest error", impl.Control{Kp: 4096, Ki: 4096, Kd: 4096, Low: -32768, High: 32767, Last: 32767}, 32767, -32768, 8388352, 32767},
	{"greatest gains, least error", impl.Control{Kp: 4096, Ki: 4096, Kd: 4096, Low: -32768, High: 32767, Last: -32768}, -32768, 32767, -8388608, -32768},
	{"greatest gains, through the whole range", impl.Control{Kp: 4096, Ki: 4096, Kd: 4096, Low: -32768, High: 32767, Sum: -8388608, Last: -32768}, 32767, -32768, 8388352, 32767},
	{"greatest gains, opposite parts", impl.Control{Kp: 4096, Kd: 4096, Low: -32768, High: 32767, Last: -32768}, 32767, 0, 0, -16},
	{"no error", impl.Control{Kp: 4096, Ki: 4096, Kd: 4096, Low: -32768, High: 32767, Sum: 999, Last: 5}, 5, 5, 999, 3},
}

// P2: the hand-written steps.
func TestControlStepOfCases(t *testing.T) {
	for _, c := range controlCases {
		next := c.c
		next.Sum, next.Last = c.sum, c.have
		if got, output := impl.ControlStep(c.c, c.want, c.have); got != next || output != c.output {
			t.Errorf("%s: %+v with the output %d, not %+v with the output %d", c.name, got, output, next, c.output)
		}
	}
}

// wantControl is ControlStep by the document's sentences, for valid arguments.
func wantControl(c impl.Control, want int, have int) (impl.Control, int) {
	e := want - have
	next := c
	next.Sum = nearestIn(c.Sum+c.Ki*e, 256*c.Low, 256*c.High)
	next.Last = have
	exact := float64(c.Kp*e+next.Sum-c.Kd*(have-c.Last)) / 256
	return next, nearestIn(int(math.Floor(exact)), c.Low, c.High)
}

// checkControl checks a step of a valid controller with two words: its result, that it is valid, and that its output is in range.
func checkControl(t *testing.T, c impl.Control, want int, have int) {
	t.Helper()
	next, output := impl.ControlStep(c, want, have)
	wantNext, wantOutput := wantControl(c, want, have)
	if next != wantNext || output != wantOutput {
		t.Fatalf("ControlStep(%+v, %d, %d) = %+v, %d, not %+v, %d", c, want, have, next, output, wantNext, wantOutput)
	}
	if !impl.ControlValid(next) || output < c.Low || output > c.High {
		t.Fatalf("ControlStep(%+v, %d, %d) = %+v, %d", c, want, have, next, output)
	}
	if want == have && have == c.Last && (next != c || !isQuotientDown(output, c.Sum, 256)) {
		t.Fatalf("ControlStep(%+v, %d, %d) without an error is %+v, %d", c, want, have, next, output)
	}
}

// P2: all kinds of controllers with words of all sizes.
func TestControlStep(t *testing.T) {
	words := []int{lowWord, lowWord + 1, -1000, -5, -1, 0, 1, 3, 1234, topWord - 1, topWord}
	for _, c := range validControllers() {
		for _, want := range words {
			for _, have := range words {
				checkControl(t, c, want, have)
			}
		}
	}
}

// P2: all errors and changes of measured words in a small range, with all small gains and integrals.
func TestControlStepOfSmallNumbers(t *testing.T) {
	small := []int{0, 1, 100, 127, 128, 129, 255, 256, 257}
	for _, kp := range small {
		for _, ki := range small {
			for _, kd := range small {
				for e := -4; e <= 4; e++ {
					for last := -3; last <= 3; last++ {
						for _, sum := range []int{-512, -511, -257, -256, -1, 0, 1, 255, 768} {
							checkControl(t, impl.Control{Kp: kp, Ki: ki, Kd: kd, Low: -2, High: 3, Sum: sum, Last: last}, e, 0)
						}
					}
				}
			}
		}
	}
}

// P2: every wanted and every measured word.
func TestControlStepOfEveryWord(t *testing.T) {
	list := []impl.Control{
		{Kp: 256, Low: lowWord, High: topWord},
		{Ki: 256, Low: lowWord, High: topWord, Sum: -77},
		{Kd: 256, Low: lowWord, High: topWord, Last: 100},
		{Kp: 3, Ki: 5, Kd: 7, Low: -500, High: 700, Sum: 1001, Last: -100},
		{Kp: mostGain, Ki: mostGain, Kd: mostGain, Low: lowWord, High: topWord, Last: topWord},
	}
	for _, c := range list {
		for x := lowWord; x <= topWord; x++ {
			for _, other := range []int{lowWord, -100, 0, topWord} {
				checkControl(t, c, x, other)
				checkControl(t, c, other, x)
			}
		}
	}
}

// P2: every gain, with the greatest errors among others.
func TestControlStepOfEveryGain(t *testing.T) {
	for k := range mostGain + 1 {
		for _, ends := range [][2]int{{lowWord, topWord}, {-100, 100}} {
			c := impl.Control{Low: ends[0], High: ends[1], Sum: -129, Last: 3}
			p, i, d := c, c, c
			p.Kp, i.Ki, d.Kd = k, k, k
			for _, words := range [][2]int{{1, 0}, {0, 1}, {3, 7}, {lowWord, topWord}, {topWord, lowWord}} {
				checkControl(t, p, words[0], words[1])
				checkControl(t, i, words[0], words[1])
				checkControl(t, d, words[0], words[1])
			}
		}
	}
}

// P2: generated controllers, each over many steps.
func TestControlStepsFollowReference(t *testing.T) {
	r := rand.New(rand.NewPCG(2, 0))
	for range 3000 {
		c := someControl(r)
		want := someWord(r)
		for range 40 {
			have := someWord(r)
			if r.IntN(2) == 0 {
				have = nearestIn(want+r.IntN(41)-20, lowWord, topWord)
			}
			checkControl(t, c, want, have)
			c, _ = impl.ControlStep(c, want, have)
		}
	}
}

// P2: with a zero error and an unchanged measured word the controller stays as it is, and its output is the integral divided by 256, rounded down, whatever the gains are.
func TestControlStepWithoutError(t *testing.T) {
	for _, k := range gains {
		for sum := -256 * 4; sum <= 256*4; sum++ {
			c := impl.Control{Kp: k, Ki: k, Kd: k, Low: -4, High: 4, Sum: sum, Last: -9}
			got, output := impl.ControlStep(c, -9, -9)
			if got != c || !isQuotientDown(output, sum, 256) {
				t.Fatalf("ControlStep(%+v) without an error is %+v, %d", c, got, output)
			}
		}
	}
	for _, c := range validControllers() {
		checkControl(t, c, c.Last, c.Last)
	}
}

// P2: however long an error keeps the integral at an end, the first opposite error moves it away from there.
func TestControllersDoNotWindUp(t *testing.T) {
	for _, ki := range gains[1:] {
		for _, e := range []int{1, 2, 100, topWord} {
			for _, steps := range []int{1, 2, 1000} {
				up := impl.Control{Ki: ki, Low: -10, High: 20, Sum: 5120 - 1}
				down := impl.Control{Ki: ki, Low: -10, High: 20, Sum: -2560 + 1}
				for range steps {
					up, _ = impl.ControlStep(up, e, 0)
					down, _ = impl.ControlStep(down, 0, e)
				}
				if up.Sum != 5120 || down.Sum != -2560 {
					t.Fatalf("after %d steps with the error %d: %+v and %+v", steps, e, up, down)
				}
				up, high := impl.ControlStep(up, 0, 1)
				down, low := impl.ControlStep(down, 1, 0)
				if up.Sum != max(5120-ki, -2560) || high >= 20 || down.Sum != min(-2560+ki, 5120) || ki >= 256 && low <= -10 {
					t.Fatalf("after %d steps with the error %d and an opposite one: %+v, %d and %+v, %d", steps, e, up, high, down, low)
				}
			}
		}
	}
}

// P2, P61: a step with an invalid controller leads to zero values.
func TestStepsOfInvalidControllers(t *testing.T) {
	for _, c := range invalidControllers() {
		for _, words := range [][2]int{{0, 0}, {10, 3}, {c.Last, c.Last}, {lowWord, topWord}} {
			if got, output := impl.ControlStep(c, words[0], words[1]); got != (impl.Control{}) || output != 0 {
				t.Fatalf("ControlStep(%+v, %d, %d) = %+v, %d", c, words[0], words[1], got, output)
			}
		}
	}
}

// P2: a step with a wanted or a measured number that is no word leads to zero values.
func TestControlStepOfNoWords(t *testing.T) {
	list := []impl.Control{{}, {Low: 7, High: 7, Sum: 1792}, {Kp: 256, Ki: 1, Kd: 1, Low: 5, High: 100, Sum: 2000}, {Low: lowWord, High: topWord, Sum: 5000, Last: 1}}
	for _, c := range list {
		for n := range 2 {
			for _, a := range withWrong([]int{10, 3}, n, noWords) {
				if got, output := impl.ControlStep(c, a[0], a[1]); got != (impl.Control{}) || output != 0 {
					t.Fatalf("ControlStep(%+v, %d, %d) = %+v, %d", c, a[0], a[1], got, output)
				}
			}
		}
		for _, x := range noWords {
			// Without an error, and with one that is small.
			for _, have := range []int{x, nearestIn(x, lowWord, topWord)} {
				if got, output := impl.ControlStep(c, x, have); got != (impl.Control{}) || output != 0 {
					t.Fatalf("ControlStep(%+v, %d, %d) = %+v, %d", c, x, have, got, output)
				}
			}
		}
	}
}

// P62: traces written by hand.
func TestControlTraceOfCases(t *testing.T) {
	cases := []struct {
		name string
		c    impl.Control
		want int
		list []int
		outs []int
	}{
		{"no word", impl.Control{Kp: 256, High: 100}, 10, nil, nil},
		{"no word, empty list", impl.Control{Kp: 256, High: 100}, 10, []int{}, nil},
		{"one word", impl.Control{Kp: 256, High: 100}, 10, []int{3}, []int{7}},
		{"proportional", impl.Control{Kp: 256, Low: -100, High: 100}, 10, []int{0, 5, 10, 15, 500, -500}, []int{10, 5, 0, -5, -100, 100}},
		{"integral", impl.Control{Ki: 128, Low: -100, High: 100}, 10, []int{0, 0, 5, 10, 13, 13, 13}, []int{5, 10, 12, 12, 11, 9, 8}},
		{"integral at its limits", impl.Control{Ki: 256, Low: 0, High: 10}, 10, []int{0, 0, 0, 11, 12, 30, 30, 9}, []int{10, 10, 10, 9, 7, 0, 0, 1}},
		{"differential", impl.Control{Kd: 256, Low: -100, High: 100, Last: 4}, 10, []int{4, 6, 6, 3, -500, 0}, []int{0, -2, 0, 3, 100, -100}},
		{"all parts", impl.Control{Kp: 256, Ki: 128, Kd: 64, Low: -100, High: 100}, 10, []int{0, 4, 8, 12, 12}, []int{15, 13, 10, 5, 5}},
	}
	for _, c := range cases {
		if got := impl.ControlTrace(c.c, c.want, c.list); !slices.Equal(got, c.outs) {
			t.Errorf("%s: %v, not %v", c.name, got, c.outs)
		}
	}
}

// checkControlTrace checks the trace of a valid controller with at most 200 measured words: there is one output per word, each is that of a step, and all are in range.
func checkControlTrace(t *testing.T, c impl.Control, want int, list []int) {
	t.Helper()
	got := impl.ControlTrace(c, want, list)
	if len(got) != len(list) {
		t.Fatalf("ControlTrace(%+v, %d, %v) has %d outputs", c, want, list, len(got))
	}
	now := c
	for n, have := range list {
		next, output := impl.ControlStep(now, want, have)
		if got[n] != output || output < c.Low || output > c.High {
			t.Fatalf("ControlTrace(%+v, %d, %v): output %d is %d, but that of the step is %d", c, want, list, n, got[n], output)
		}
		now = next
	}
}

// P62: generated controllers with lists of every length.
func TestControlTrace(t *testing.T) {
	r := rand.New(rand.NewPCG(62, 0))
	for size := range mostMeasured + 1 {
		for range 10 {
			c := someControl(r)
			want := someWord(r)
			checkControlTrace(t, c, want, wordsOf(r, size))
			near := make([]int, size)
			for n := range near {
				near[n] = nearestIn(want+r.IntN(41)-20, lowWord, topWord)
			}
			checkControlTrace(t, c, want, near)
		}
	}
}

// P62: all kinds of controllers with short lists.
func TestControlTraceOfShortLists(t *testing.T) {
	lists := append(listsOf([]int{lowWord, -3, 0, 500, topWord}, 2), nil, []int{0}, []int{7, 7, 7, 7})
	for _, c := range validControllers() {
		for _, list := range lists {
			checkControlTrace(t, c, 0, list)
			checkControlTrace(t, c, 250, list)
		}
	}
}

// P62: a trace can be made in two parts, the second one with the controller after the first one.
func TestControlTracesCanBeContinued(t *testing.T) {
	r := rand.New(rand.NewPCG(62, 1))
	for range 40 {
		c := someControl(r)
		want := someWord(r)
		list := wordsOf(r, 30)
		got := impl.ControlTrace(c, want, list)
		now := c
		for cut, have := range list {
			parts := append(impl.ControlTrace(c, want, list[:cut]), impl.ControlTrace(now, want, list[cut:])...)
			if !slices.Equal(parts, got) {
				t.Fatalf("ControlTrace(%+v, %d, %v) = %v, but %v when cut at %d", c, want, list, got, parts, cut)
			}
			now, _ = impl.ControlStep(now, want, have)
		}
	}
}

// P62: there are no outputs for more than 200 measured words.
func TestLengthOfControlTraces(t *testing.T) {
	for _, size := range []int{0, 1, 2, 199, 200, 201, 202, 256, 400, 456, 1000, 70000} {
		want := size
		if size > 200 {
			want = 0
		}
		list := slices.Repeat([]int{3}, size)
		for _, c := range []impl.Control{{}, {Low: 7, High: 7, Sum: 1792}, {Kp: 256, Ki: 1, Kd: 1, High: 100, Sum: 2000}} {
			if got := impl.ControlTrace(c, 10, list); len(got) != want {
				t.Errorf("ControlTrace(%+v) of %d words has %d outputs", c, size, len(got))
			}
		}
	}
}

// P62, P61: without a valid controller and words there are no outputs.
func TestControlTraceOfInvalidArguments(t *testing.T) {
	for _, c := range invalidControllers() {
		for _, list := range [][]int{{3}, {c.Last}, slices.Repeat([]int{3}, 200)} {
			if got := impl.ControlTrace(c, 10, list); len(got) != 0 {
				t.Fatalf("ControlTrace(%+v) of %d words is %v", c, len(list), got)
			}
		}
	}
	c := impl.Control{Kp: 256, Ki: 1, Kd: 1, Low: 5, High: 100, Sum: 2000}
	for _, wrong := range noWords {
		for _, list := range [][]int{nil, {3}, {wrong}, slices.Repeat([]int{3}, 200)} {
			if got := impl.ControlTrace(c, wrong, list); len(got) != 0 {
				t.Fatalf("ControlTrace for %d of %d words is %v", wrong, len(list), got)
			}
		}
	}
	for _, size := range []int{1, 2, 3, 199, 200} {
		for _, n := range []int{0, size / 2, size - 1} {
			for _, list := range withWrong(slices.Repeat([]int{3}, size), n, noWords) {
				if got := impl.ControlTrace(c, 10, list); len(got) != 0 {
					t.Fatalf("ControlTrace of %d numbers, number %d being %d, is %v", size, n, list[n], got)
				}
			}
		}
	}
}

// The measured words and their spare capacity are not changed, and nothing is kept of them.
func TestControlTracesHaveOwnMemory(t *testing.T) {
	r := rand.New(rand.NewPCG(62, 2))
	lists := [][]int{nil, {}, {5}, {1, 2, 3}, {topWord, lowWord, 0}, {1, topWord + 1, 2}, wordsOf(r, 199), wordsOf(r, 200), wordsOf(r, 201)}
	for _, c := range []impl.Control{{}, {Kp: 256, Ki: 100, Kd: 30, Low: -500, High: 500}, {Kp: -1}, {Ki: mostGain, Low: lowWord, High: topWord, Sum: 77}} {
		for _, list := range lists {
			for _, want := range []int{10, topWord + 1} {
				checkOwnMemory(t, "ControlTrace", impl.Image{Words: list}, func(m impl.Image) impl.Image {
					return impl.Image{Words: impl.ControlTrace(c, want, m.Words)}
				})
			}
		}
	}
}

// Numbers in the spare capacity of a list are not measured words.
func TestSpareCapacityOfControlTraces(t *testing.T) {
	list := append(slices.Repeat([]int{3}, 200), topWord+1, 7)
	for _, size := range []int{0, 1, 2, 199, 200} {
		got := impl.ControlTrace(impl.Control{Kp: 256, High: 100}, 10, list[:size])
		if !slices.Equal(got, slices.Repeat([]int{7}, size)) {
			t.Errorf("the trace of %d words is %v", size, got)
		}
	}
}

// P3: taking over, written by hand, with the integral then and the output of the next step with the same words.
func TestControlBumplessOfCases(t *testing.T) {
	cases := []struct {
		name               string
		c                  impl.Control
		manual, want, have int
		sum, output        int
	}{
		{"no gains", impl.Control{High: 100}, 40, 10, 0, 10240, 40},
		{"no error", impl.Control{Kp: 256, High: 100}, 40, 10, 10, 10240, 40},
		{"an error", impl.Control{Kp: 256, High: 100}, 40, 10, 0, 7680, 40},
		{"a negative error", impl.Control{Kp: 256, High: 100}, 40, 0, 10, 12800, 40},
		{"an integral that is not whole", impl.Control{Kp: 3, High: 100}, 40, 7, 0, 10219, 40},
		{"an integral that is not whole, negative error", impl.Control{Kp: 3, High: 100}, 40, 0, 7, 10261, 40},
		{"a negative manual output", impl.Control{Kp: 3, Low: -100, High: 100}, -40, 7, 0, -10261, -40},
		{"the differential part is 0", impl.Control{Kp: 256, Kd: 256, High: 100, Last: 77}, 40, 10, 0, 7680, 40},
		{"the integral before does not matter", impl.Control{Kp: 256, High: 100, Sum: 25000, Last: -5}, 40, 10, 0, 7680, 40},
		{"manual output at the high limit", impl.Control{Kp: 256, High: 100}, 100, 10, 0, 23040, 100},
		{"manual output at the low limit", impl.Control{Kp: 256, High: 100}, 0, 0, 10, 2560, 0},
		{"manual output above the high limit", impl.Control{High: 100}, 101, 10, 0, 25600, 100},
		{"manual output far above the high limit", impl.Control{High: 100}, 32767, 10, 0, 25600, 100},
		{"manual output below the low limit", impl.Control{Low: -100, High: 100}, -101, 10, 0, -25600, -100},
		{"manual output far below the low limit", impl.Control{Low: -100, High: 100}, -32768, 10, 0, -25600, -100},
		{"manual output above the high limit, integral in range", impl.Control{Kp: 256, High: 100}, 120, 50, 0, 17920, 100},
		{"manual output below the low limit, integral in range", impl.Control{Kp: 256, High: 100}, -20, 0, 50, 7680, 0},
		{"integral at the low end", impl.Control{Kp: 256, High: 100}, 40, 40, 0, 0, 40},
		{"integral just beyond the low end", impl.Control{Kp: 1, High: 100}, 1, 257, 0, 0, 1},
		{"integral moved to the low end", impl.Control{Kp: 256, High: 100}, 40, 50, 0, 0, 50},
		{"integral at the high end", impl.Control{Kp: 256, High: 100}, 40, 0, 60, 25600, 40},
		{"integral just beyond the high end", impl.Control{Kp: 1, High: 100}, 99, 0, 257, 25600, 98},
		{"integral moved to the high end", impl.Control{Kp: 256, High: 100}, 40, 0, 70, 25600, 30},
		{"equal limits", impl.Control{Kp: 256, Low: 7, High: 7, Sum: 1792}, 40, 10, 0, 1792, 7},
		{"an integral gain", impl.Control{Kp: 256, Ki: 128, High: 100}, 40, 10, 0, 7680, 45},
		{"greatest gain, greatest error", impl.Control{Kp: 4096, Low: -32768, High: 32767}, 0, 32767, -32768, -8388608, 32767},
		{"greatest gain, least error", impl.Control{Kp: 4096, Low: -32768, High: 32767}, 0, -32768, 32767, 8388352, -32768},
		{"greatest manual output, least error", impl.Control{Kp: 4096, Low: -32768, High: 32767}, 32767, -32768, 32767, 8388352, -32768},
		{"least manual output", impl.Control{Kp: 4096, Low: -32768, High: 32767}, -32768, 5, 5, -8388608, -32768},
	}
	for _, c := range cases {
		want := c.c
		want.Sum, want.Last = c.sum, c.have
		got := impl.ControlBumpless(c.c, c.manual, c.want, c.have)
		if got != want {
			t.Errorf("%s: %+v, not %+v", c.name, got, want)
		}
		if _, output := impl.ControlStep(got, c.want, c.have); output != c.output {
			t.Errorf("%s: the next output is %d, not %d", c.name, output, c.output)
		}
	}
}

// checkBumpless checks taking over by a valid controller with three words, and, with the integral gain 0, the next step with the same words.
func checkBumpless(t *testing.T, c impl.Control, manual int, want int, have int) {
	t.Helper()
	exact := 256*manual - c.Kp*(want-have)
	expected := c
	expected.Sum, expected.Last = nearestIn(exact, 256*c.Low, 256*c.High), have
	got := impl.ControlBumpless(c, manual, want, have)
	if got != expected || !impl.ControlValid(got) {
		t.Fatalf("ControlBumpless(%+v, %d, %d, %d) = %+v, not %+v", c, manual, want, have, got, expected)
	}
	if c.Ki != 0 && want != have {
		return
	}
	next, output := impl.ControlStep(got, want, have)
	if next != got {
		t.Fatalf("after ControlBumpless(%+v, %d, %d, %d) a step leads to %+v", c, manual, want, have, next)
	}
	if manual >= c.Low && manual <= c.High && got.Sum == exact && output != manual {
		t.Fatalf("after ControlBumpless(%+v, %d, %d, %d) the output is %d", c, manual, want, have, output)
	}
}

// P3: all kinds of controllers, as they are and without the integral gain.
func TestControlBumpless(t *testing.T) {
	words := []int{lowWord, -1000, -101, -100, -11, -1, 0, 1, 7, 99, 100, 101, topWord}
	for _, c := range validControllers() {
		still := c
		still.Ki = 0
		for _, manual := range words {
			for _, pair := range [][2]int{{0, 0}, {10, 0}, {0, 10}, {-7, 30}, {90, -10}, {c.Last, c.Last}, {lowWord, topWord}, {topWord, lowWord}} {
				checkBumpless(t, c, manual, pair[0], pair[1])
				checkBumpless(t, still, manual, pair[0], pair[1])
			}
		}
	}
}

// P3: every manual output, for controllers of the whole range and of a part of it.
func TestControlBumplessOfEveryOutput(t *testing.T) {
	for _, kp := range gains {
		for _, c := range []impl.Control{{Kp: kp, Kd: 99, Low: lowWord, High: topWord, Last: 4}, {Kp: kp, Low: -1000, High: 2000, Sum: 3}} {
			for manual := lowWord; manual <= topWord; manual++ {
				checkBumpless(t, c, manual, 10, 3)
				checkBumpless(t, c, manual, -10, 3)
			}
		}
	}
}

// P3: generated controllers without an integral gain; enough of them do not have to limit the integral.
func TestTakingOverDoesNotJump(t *testing.T) {
	r := rand.New(rand.NewPCG(3, 0))
	smooth := 0
	for range 30000 {
		c := someControl(r)
		c.Ki = 0
		manual := c.Low + r.IntN(c.High-c.Low+1)
		want := someWord(r)
		have := nearestIn(want+r.IntN(201)-100, lowWord, topWord)
		checkBumpless(t, c, manual, want, have)
		taken := impl.ControlBumpless(c, manual, want, have)
		if taken.Sum != 256*manual-c.Kp*(want-have) {
			continue
		}
		smooth++
		outputs := impl.ControlTrace(taken, want, []int{have, have, have})
		if !slices.Equal(outputs, []int{manual, manual, manual}) {
			t.Fatalf("after ControlBumpless(%+v, %d, %d, %d) the outputs are %v", c, manual, want, have, outputs)
		}
	}
	if smooth < 10000 {
		t.Fatal(smooth)
	}
}

// P3: a controller that takes over while it is at work keeps its output, if the integral did not have to be limited, and then goes on from there with its integral gain.
func TestTakingOverFromItself(t *testing.T) {
	r := rand.New(rand.NewPCG(3, 1))
	for range 3000 {
		c := someControl(r)
		c.Kp, c.Ki = c.Kp%300, 0
		want := someWord(r)
		have := nearestIn(want+r.IntN(21)-10, lowWord, topWord)
		moved, output := impl.ControlStep(c, want, have)
		taken := impl.ControlBumpless(moved, output, want, have)
		if _, again := impl.ControlStep(taken, want, have); taken.Sum == 256*output-c.Kp*(want-have) && again != output {
			t.Fatalf("ControlStep(%+v, %d, %d) has the output %d, and after taking over %d", c, want, have, output, again)
		}
		taken.Ki = 5
		next, _ := impl.ControlStep(taken, want, have)
		if next.Sum != nearestIn(taken.Sum+5*(want-have), 256*c.Low, 256*c.High) {
			t.Fatalf("ControlStep(%+v, %d, %d) = %+v", taken, want, have, next)
		}
	}
}

// P3, P61: an invalid controller does not take over.
func TestControlBumplessOfInvalidControllers(t *testing.T) {
	for _, c := range invalidControllers() {
		for _, a := range [][3]int{{0, 0, 0}, {40, 10, 3}, {c.Low, c.Last, c.Last}, {topWord, lowWord, topWord}} {
			if got := impl.ControlBumpless(c, a[0], a[1], a[2]); got != (impl.Control{}) {
				t.Fatalf("ControlBumpless(%+v, %d, %d, %d) = %+v", c, a[0], a[1], a[2], got)
			}
		}
	}
}

// P3: with a number that is no word no controller takes over, also if the error or the integral would be in range.
func TestControlBumplessOfNoWords(t *testing.T) {
	for _, c := range []impl.Control{{}, {Kp: 256, Ki: 3, Kd: 2, Low: 5, High: 100, Sum: 2000, Last: 8}, {Kp: 1, Low: lowWord, High: topWord, Sum: 1}} {
		for n := range 3 {
			for _, a := range withWrong([]int{40, 10, 3}, n, noWords) {
				if got := impl.ControlBumpless(c, a[0], a[1], a[2]); got != (impl.Control{}) {
					t.Fatalf("ControlBumpless(%+v, %d, %d, %d) = %+v", c, a[0], a[1], a[2], got)
				}
			}
		}
		for _, x := range noWords {
			if got := impl.ControlBumpless(c, 40, x, x); got != (impl.Control{}) {
				t.Fatalf("ControlBumpless(%+v, 40, %d, %d) = %+v", c, x, x, got)
			}
		}
	}
}
