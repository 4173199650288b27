package tests

import (
	"fmt"
	"math"
	"math/rand/v2"
	"slices"
	"testing"

	"loop.example/plcruntime/impl"
)

// The limits of chapter 7 stand in its text.
const (
	mostAveraged = 200
	mostWindow   = 50
	mostMedian   = 15
)

// someWords are words at, near and far from the ends of the range, and noWords are numbers beyond it; amounts are rates and widths, and noAmounts are numbers that are none.
var (
	someWords = []int{lowWord, lowWord + 1, lowWord + 2, -30000, -16384, -12345, -1000, -256, -255, -100, -8, -7, -5, -3, -2, -1, 0, 1, 2, 3, 5, 7, 8, 100, 127, 255, 256, 1000, 12345, 16383, 30000, topWord - 2, topWord - 1, topWord}
	noWords   = []int{topWord + 1, lowWord - 1, topWord + 2, lowWord - 2, 40000, -40000, 65535, 65536, 65537, -65535, -65536, -65537, 1 << 32, 1<<32 + 5, -1 << 32, -1<<32 + 5, math.MinInt, math.MinInt + 1, math.MaxInt - 1, math.MaxInt}
	amounts   = []int{0, 1, 2, 3, 5, 7, 8, 100, 255, 256, 1000, 16383, 16384, 30000, topWord - 1, topWord}
	noAmounts = append([]int{-1, -2, -5, -1000, lowWord}, noWords...)
)

// someWord returns a word; every second one is near an end of the range or near 0.
func someWord(r *rand.Rand) int {
	if r.IntN(2) == 0 {
		return someWords[r.IntN(len(someWords))]
	}
	return lowWord + r.IntN(topWord-lowWord+1)
}

// wordsOf returns a number of generated words.
func wordsOf(r *rand.Rand, size int) []int {
	list := make([]int, size)
	for n := range list {
		list[n] = someWord(r)
	}
	return list
}

// absolute returns the absolute value of a number.
func absolute(x int) int {
	if x < 0 {
		return -x
	}
	return x
}

// between reports whether x is between a and b, in either order, or one of them.
func between(x int, a int, b int) bool {
	return a <= x && x <= b || b <= x && x <= a
}

// isQuotientDown reports whether q is the quotient a / b, rounded down, without dividing; b is greater than 0.
func isQuotientDown(q int, a int, b int) bool {
	return q*b <= a && a < (q+1)*b
}

// withWrong returns arguments with one of them, in turn, replaced by each of some wrong numbers.
func withWrong(args []int, n int, wrong []int) [][]int {
	var list [][]int
	for _, x := range wrong {
		changed := slices.Clone(args)
		changed[n] = x
		list = append(list, changed)
	}
	return list
}

// P54: sums within and beyond the range, written by hand.
func TestAddSaturatedOfCases(t *testing.T) {
	cases := []struct{ a, b, want int }{
		{0, 0, 0},
		{1, 2, 3},
		{-1, 1, 0},
		{-5, 3, -2},
		{32000, 1000, 32767},
		{-32000, -1000, -32768},
		{32766, 1, 32767},
		{32766, 2, 32767},
		{32767, 0, 32767},
		{32767, 1, 32767},
		{32767, -1, 32766},
		{-32767, -1, -32768},
		{-32767, -2, -32768},
		{-32768, 0, -32768},
		{-32768, -1, -32768},
		{-32768, 1, -32767},
		{32767, 32767, 32767},
		{-32768, -32768, -32768},
		{-32768, 32767, -1},
		{16384, 16384, 32767},
		{16384, 16383, 32767},
		{-16384, -16384, -32768},
		{-16384, -16385, -32768},
	}
	for _, c := range cases {
		if x, y := impl.AddSaturated(c.a, c.b), impl.AddSaturated(c.b, c.a); x != c.want || y != c.want {
			t.Errorf("the sum of %d and %d is %d, and exchanged %d, not %d", c.a, c.b, x, y, c.want)
		}
	}
}

// P54: for every word, the sum with other words is commutative and in range, exact if the exact sum is in range, and otherwise the end that this is beyond.
func TestAddSaturated(t *testing.T) {
	for a := lowWord; a <= topWord; a++ {
		if x, y := impl.AddSaturated(a, 0), impl.AddSaturated(0, a); x != a || y != a {
			t.Fatalf("the sum of %d and 0 is %d, and exchanged %d", a, x, y)
		}
		for _, b := range someWords {
			want := a + b
			if want > topWord {
				want = topWord
			}
			if want < lowWord {
				want = lowWord
			}
			if x, y := impl.AddSaturated(a, b), impl.AddSaturated(b, a); x != want || y != want {
				t.Fatalf("the sum of %d and %d is %d, and exchanged %d", a, b, x, y)
			}
		}
	}
}

// P54: without two words the sum is 0, also if the two numbers have a sum in range.
func TestSumsOfNoWords(t *testing.T) {
	for _, a := range noWords {
		for _, b := range slices.Concat(someWords, noWords, []int{5 - a, -a}) {
			if x, y := impl.AddSaturated(a, b), impl.AddSaturated(b, a); x != 0 || y != 0 {
				t.Fatalf("the sum of %d and %d is %d, and exchanged %d", a, b, x, y)
			}
		}
	}
}

// scaleCases are scalings written by hand.
var scaleCases = []struct {
	name                                  string
	raw, rawLow, rawHigh, low, high, want int
}{
	{"in the middle", 50, 0, 100, 0, 10, 5},
	{"at the low end", 0, 0, 100, 3, 10, 3},
	{"at the high end", 100, 0, 100, 3, 10, 10},
	{"below the low end", -10, 0, 100, 3, 10, 3},
	{"above the high end", 110, 0, 100, 3, 10, 10},
	{"far below the low end", -32768, 0, 100, 3, 10, 3},
	{"far above the high end", 32767, 0, 100, 3, 10, 10},
	{"just inside the low end", 1, 0, 100, 0, 1000, 10},
	{"just inside the high end", 99, 0, 100, 0, 1000, 990},
	{"a third, rounded down", 1, 0, 3, 0, 10, 3},
	{"two thirds, rounded down", 2, 0, 3, 0, 10, 6},
	{"a half, rounded down", 1, 0, 2, 0, 1, 0},
	{"nearly one, rounded down", 99, 0, 100, 0, 1, 0},
	{"a third downwards, rounded down", 1, 0, 3, 10, 0, 6},
	{"two thirds downwards, rounded down", 2, 0, 3, 10, 0, 3},
	{"a half downwards, rounded down", 1, 0, 2, 1, 0, 0},
	{"a little downwards, rounded down", 1, 0, 100, 1, 0, 0},
	{"a whole quotient downwards", 1, 0, 2, 10, 0, 5},
	{"a third to negative words", 1, 0, 3, 0, -10, -4},
	{"two thirds to negative words", 2, 0, 3, 0, -10, -7},
	{"a half to negative words", 1, 0, 2, 0, -1, -1},
	{"a third between negative words", 1, 0, 3, -20, -10, -17},
	{"two thirds between negative words", 2, 0, 3, -20, -10, -14},
	{"a half between negative words", 1, 0, 2, -1, 0, -1},
	{"a third between negative words, downwards", 1, 0, 3, -10, -20, -14},
	{"through 0, a third", 1, 0, 3, -5, 5, -2},
	{"through 0, two thirds", 2, 0, 3, -5, 5, 1},
	{"through 0 downwards, a third", 1, 0, 3, 5, -5, 1},
	{"through 0 downwards, two thirds", 2, 0, 3, 5, -5, -2},
	{"negative raw words", -2, -3, 0, 0, 10, 3},
	{"negative raw words downwards", -2, -3, 0, 10, 0, 6},
	{"raw words through 0", 0, -3, 4, 0, 10, 4},
	{"raw words through 0 downwards", 0, -3, 4, 10, 0, 5},
	{"negative raw words only", -98, -100, -97, 0, 10, 6},
	{"below negative raw words", -101, -100, -97, 7, 10, 7},
	{"above negative raw words", 0, -100, -97, 7, 10, 10},
	{"the shortest raw range, low end", 4, 4, 5, 8, -8, 8},
	{"the shortest raw range, high end", 5, 4, 5, 8, -8, -8},
	{"equal results", 1, 0, 3, 9, 9, 9},
	{"equal negative results", 2, 0, 3, -9, -9, -9},
	{"the whole range, lowest", -32768, -32768, 32767, -32768, 32767, -32768},
	{"the whole range, greatest", 32767, -32768, 32767, -32768, 32767, 32767},
	{"the whole range downwards, lowest", -32768, -32768, 32767, 32767, -32768, 32767},
	{"the whole range downwards, greatest", 32767, -32768, 32767, 32767, -32768, -32768},
	{"the whole range downwards, 0", 0, -32768, 32767, 32767, -32768, -1},
	{"the shortest raw range to the whole range", 1, 0, 1, -32768, 32767, 32767},
	{"the whole range to one step", 32766, -32768, 32767, 0, 1, 0},
	{"the whole range to one step downwards", -32767, -32768, 32767, 1, 0, 0},
	{"equal ends of the raw range", 5, 5, 5, 1, 2, 0},
	{"equal ends, raw word below", 1, 5, 5, 1, 2, 0},
	{"equal ends, raw word above", 9, 5, 5, 1, 2, 0},
	{"equal ends and equal results", 5, 5, 5, 3, 3, 0},
	{"exchanged ends", 5, 10, 0, 1, 2, 0},
	{"exchanged ends next to each other", 5, 6, 5, 1, 2, 0},
	{"exchanged ends of the whole range", 5, 32767, -32768, 1, 2, 0},
}

// P55: the hand-written scalings.
func TestScaleWordOfCases(t *testing.T) {
	for _, c := range scaleCases {
		if got := impl.ScaleWord(c.raw, c.rawLow, c.rawHigh, c.low, c.high); got != c.want {
			t.Errorf("%s: ScaleWord(%d, %d, %d, %d, %d) = %d, not %d", c.name, c.raw, c.rawLow, c.rawHigh, c.low, c.high, got, c.want)
		}
	}
}

// checkScale checks the scaling of raw words, which are ascending: each result is the stated quotient, rounded down, beyond low, is between low and high, and does not go back towards low.
func checkScale(t *testing.T, raws []int, rawLow int, rawHigh int, low int, high int) {
	t.Helper()
	before := low
	for _, raw := range raws {
		got := impl.ScaleWord(raw, rawLow, rawHigh, low, high)
		moved := raw
		if raw < rawLow {
			moved = rawLow
		}
		if raw > rawHigh {
			moved = rawHigh
		}
		if !isQuotientDown(got-low, (moved-rawLow)*(high-low), rawHigh-rawLow) {
			t.Fatalf("ScaleWord(%d, %d, %d, %d, %d) = %d", raw, rawLow, rawHigh, low, high, got)
		}
		if !between(got, before, high) || raw <= rawLow && got != low || raw >= rawHigh && got != high {
			t.Fatalf("ScaleWord(%d, %d, %d, %d, %d) = %d after %d", raw, rawLow, rawHigh, low, high, got, before)
		}
		before = got
	}
}

// P55: every raw word in and around short ranges, with results of every size up to one and a half times the range.
func TestScaleWordOfShortRanges(t *testing.T) {
	for _, rawLow := range []int{-9, -4, 0, 3} {
		for size := 1; size <= 12; size++ {
			var raws []int
			for raw := rawLow - 3; raw <= rawLow+size+3; raw++ {
				raws = append(raws, raw)
			}
			for _, low := range []int{-20, -7, -1, 0, 1, 13} {
				for change := -20; change <= 20; change++ {
					checkScale(t, raws, rawLow, rawLow+size, low, low+change)
				}
			}
		}
	}
}

// P55: ranges of words from all of the range, with the raw words at, beside and between their ends.
func TestScaleWordOfAllRanges(t *testing.T) {
	r := rand.New(rand.NewPCG(55, 0))
	for _, rawLow := range someWords {
		for _, rawHigh := range someWords {
			if rawLow >= rawHigh {
				continue
			}
			raws := slices.Clone(someWords)
			for range 8 {
				raws = append(raws, rawLow+r.IntN(rawHigh-rawLow+1))
			}
			slices.Sort(raws)
			for range 20 {
				checkScale(t, raws, rawLow, rawHigh, someWord(r), someWord(r))
			}
			checkScale(t, raws, rawLow, rawHigh, lowWord, topWord)
			checkScale(t, raws, rawLow, rawHigh, topWord, lowWord)
		}
	}
}

// P55: every raw word of the whole range.
func TestScaleWordOfEveryWord(t *testing.T) {
	var raws []int
	for raw := lowWord; raw <= topWord; raw++ {
		raws = append(raws, raw)
		if got := impl.ScaleWord(raw, lowWord, topWord, lowWord, topWord); got != raw {
			t.Fatalf("ScaleWord(%d) to the same range is %d", raw, got)
		}
		if got := impl.ScaleWord(raw, lowWord, topWord, topWord, lowWord); got != -1-raw {
			t.Fatalf("ScaleWord(%d) to the exchanged range is %d", raw, got)
		}
	}
	for _, ends := range [][2]int{{0, 10}, {10, 0}, {-10, 0}, {0, -10}, {-1000, 1000}, {1000, -1000}, {lowWord, 0}, {0, lowWord}, {topWord, topWord - 1}, {7, 7}} {
		checkScale(t, raws, lowWord, topWord, ends[0], ends[1])
		checkScale(t, raws, -1000, 1003, ends[0], ends[1])
	}
}

// P55: nothing is scaled with a raw range that has no length, or with a number that is no word; such a raw word is not moved to its range.
func TestScaleWordOfWrongArguments(t *testing.T) {
	scale := func(a []int) int { return impl.ScaleWord(a[0], a[1], a[2], a[3], a[4]) }
	args := []int{50, 0, 100, 20, 40}
	if got := scale(args); got != 30 {
		t.Fatal(got)
	}
	for n := range args {
		for _, a := range withWrong(args, n, noWords) {
			if got := scale(a); got != 0 {
				t.Errorf("ScaleWord of %v is %d", a, got)
			}
		}
	}
	for _, rawLow := range someWords {
		for _, rawHigh := range someWords {
			for _, raw := range someWords {
				if got := impl.ScaleWord(raw, rawLow, rawHigh, 20, 40); rawLow >= rawHigh && got != 0 {
					t.Fatalf("ScaleWord(%d, %d, %d, 20, 40) = %d", raw, rawLow, rawHigh, got)
				}
			}
		}
	}
}

// P56: values at, beside and between thresholds, and thresholds that are equal or exchanged, written by hand.
func TestHysteresisOfCases(t *testing.T) {
	cases := []struct {
		x, low, high        int
		fromFalse, fromTrue bool
	}{
		{2, 3, 8, false, false},
		{3, 3, 8, false, false},
		{4, 3, 8, false, true},
		{5, 3, 8, false, true},
		{7, 3, 8, false, true},
		{8, 3, 8, true, true},
		{9, 3, 8, true, true},
		{-32768, 3, 8, false, false},
		{32767, 3, 8, true, true},
		{3, 3, 4, false, false},
		{4, 3, 4, true, true},
		{-5, -5, -1, false, false},
		{-4, -5, -1, false, true},
		{-2, -5, -1, false, true},
		{-1, -5, -1, true, true},
		{-32768, -32768, 32767, false, false},
		{-32767, -32768, 32767, false, true},
		{0, -32768, 32767, false, true},
		{32766, -32768, 32767, false, true},
		{32767, -32768, 32767, true, true},
		{4, 5, 5, false, true},
		{5, 5, 5, false, true},
		{6, 5, 5, false, true},
		{2, 8, 3, false, true},
		{3, 8, 3, false, true},
		{5, 8, 3, false, true},
		{8, 8, 3, false, true},
		{9, 8, 3, false, true},
		{5, 6, 5, false, true},
		{6, 6, 5, false, true},
		{0, 32767, -32768, false, true},
	}
	for _, c := range cases {
		if x, y := impl.Hysteresis(false, c.x, c.low, c.high), impl.Hysteresis(true, c.x, c.low, c.high); x != c.fromFalse || y != c.fromTrue {
			t.Errorf("Hysteresis of %d between %d and %d: from false %v, from true %v", c.x, c.low, c.high, x, y)
		}
	}
}

// checkSwitch checks the switch with two thresholds for both states.
func checkSwitch(t *testing.T, x int, low int, high int) {
	t.Helper()
	for _, state := range bothValues {
		want := state
		if low < high && x >= high {
			want = true
		}
		if low < high && x <= low {
			want = false
		}
		got := impl.Hysteresis(state, x, low, high)
		if got != want || impl.Hysteresis(got, x, low, high) != got {
			t.Fatalf("Hysteresis(%v, %d, %d, %d) = %v", state, x, low, high, got)
		}
		if latch := impl.SetDominant(state, x >= high, x <= low); low < high && got != latch {
			t.Fatalf("Hysteresis(%v, %d, %d, %d) = %v, but the latch is %v", state, x, low, high, got, latch)
		}
	}
}

// P56, P126: every value around all pairs of near thresholds, and all triples of other words; with the same value again nothing changes, and the switch is a set-dominant latch.
func TestHysteresis(t *testing.T) {
	for low := -6; low <= 6; low++ {
		for high := -6; high <= 6; high++ {
			for x := -8; x <= 8; x++ {
				checkSwitch(t, x, low, high)
			}
		}
	}
	for _, low := range someWords {
		for _, high := range someWords {
			for _, x := range someWords {
				checkSwitch(t, x, low, high)
			}
		}
	}
}

// P56: the document does not restrict the numbers of a switch to words, so others are compared as they are.
func TestHysteresisOfNoWords(t *testing.T) {
	numbers := slices.Concat(noWords, []int{lowWord, -1, 0, 1, 5, topWord})
	for _, low := range numbers {
		for _, high := range numbers {
			for _, x := range numbers {
				checkSwitch(t, x, low, high)
			}
		}
	}
}

// P126: a ladder that resets a bit at or below the low threshold and then sets it at or above the high one is the switch, over sequences of words.
func TestTwoPointControlOfLadders(t *testing.T) {
	const above, below, level = 0, 1, 2
	list := ladder{reset(level, bitNode(below)), set(level, bitNode(above))}
	r := rand.New(rand.NewPCG(126, 0))
	for range 300 {
		low := someWord(r)
		high := someWord(r)
		if low >= high {
			continue
		}
		for _, state := range bothValues {
			m := impl.SetBit(impl.NewImage(3, 0), level, state)
			for range 50 {
				x := []int{low - 1, low, low + 1, high - 1, high, high + 1, someWord(r)}[r.IntN(7)]
				m = impl.SetBit(impl.SetBit(m, above, x >= high), below, x <= low)
				m = impl.RunLadder(m, list)
				before := state
				state = impl.Hysteresis(state, x, low, high)
				if impl.GetBit(m, level) != state {
					t.Fatalf("Hysteresis(%v, %d, %d, %d) = %v, but the ladder differs", before, x, low, high, state)
				}
			}
		}
	}
}

// P57: targets nearer and farther than the rate on both sides, and the limits of the rate, written by hand.
func TestRampStepOfCases(t *testing.T) {
	cases := []struct{ now, target, rate, want int }{
		{0, 10, 3, 3},
		{0, -10, 3, -3},
		{8, 10, 3, 10},
		{-8, -10, 3, -10},
		{7, 10, 3, 10},
		{6, 10, 3, 9},
		{10, 9, 3, 9},
		{10, 7, 3, 7},
		{10, 6, 3, 7},
		{-2, 2, 3, 1},
		{2, -2, 3, -1},
		{5, 5, 3, 5},
		{-5, -5, 0, -5},
		{0, 10, 0, 0},
		{10, 0, 0, 10},
		{-32768, 32767, 0, -32768},
		{32767, -32768, 0, 32767},
		{0, 32767, 32767, 32767},
		{0, -32767, 32767, -32767},
		{0, -32768, 32767, -32767},
		{-1, 32767, 32767, 32766},
		{-1, -32768, 32767, -32768},
		{-32768, 32767, 32767, -1},
		{32767, -32768, 32767, 0},
		{-32768, 32767, 1, -32767},
		{32767, -32768, 1, 32766},
		{-32768, 32767, 32766, -2},
		{32767, -32768, 32766, 1},
		{32760, 32767, 100, 32767},
		{-32760, -32768, 100, -32768},
	}
	for _, c := range cases {
		if got := impl.RampStep(c.now, c.target, c.rate); got != c.want {
			t.Errorf("RampStep(%d, %d, %d) = %d, not %d", c.now, c.target, c.rate, got, c.want)
		}
	}
}

// checkRamp checks a step of a ramp: it is the rate towards the target, or less only to reach it.
func checkRamp(t *testing.T, now int, target int, rate int) {
	t.Helper()
	got := impl.RampStep(now, target, rate)
	step := absolute(got - now)
	if !between(got, now, target) || step > rate || step < rate && got != target {
		t.Fatalf("RampStep(%d, %d, %d) = %d", now, target, rate, got)
	}
}

// P57: all combinations of words and rates, all of small ones, and every rate from some words.
func TestRampStep(t *testing.T) {
	for _, now := range someWords {
		for _, target := range someWords {
			for _, rate := range amounts {
				checkRamp(t, now, target, rate)
			}
		}
	}
	for now := -9; now <= 9; now++ {
		for target := -9; target <= 9; target++ {
			for rate := range 22 {
				checkRamp(t, now, target, rate)
			}
		}
	}
	for rate := range topWord + 1 {
		for _, ends := range [][2]int{{lowWord, topWord}, {lowWord, -1}, {lowWord, 0}, {-1, topWord}, {0, topWord}, {-5000, 5000}, {0, 1}} {
			checkRamp(t, ends[0], ends[1], rate)
			checkRamp(t, ends[1], ends[0], rate)
		}
	}
}

// P57: a target is reached after as many steps as the rate is contained in the distance, rounded up, and then not left.
func TestRampsReachTheirTarget(t *testing.T) {
	for _, now := range someWords {
		for _, target := range someWords {
			for _, rate := range amounts[1:] {
				distance := absolute(target - now)
				want := (distance + rate - 1) / rate
				if want > 300 {
					continue
				}
				x := now
				for n := range want {
					if x == target {
						t.Fatalf("from %d the target %d is reached after %d steps of %d", now, target, n, rate)
					}
					x = impl.RampStep(x, target, rate)
				}
				if x != target || impl.RampStep(x, target, rate) != target {
					t.Fatalf("from %d the target %d is not reached after %d steps of %d, but %d", now, target, want, rate, x)
				}
			}
		}
	}
}

// P57: without two words and a rate there is no step.
func TestRampStepOfWrongArguments(t *testing.T) {
	for n, wrong := range [][]int{noWords, noWords, noAmounts} {
		for _, args := range [][]int{{10, 20, 5}, {-10, -20, 5}, {10, 10, 0}, {topWord, lowWord, 100}, {lowWord, topWord, topWord}} {
			for _, a := range withWrong(args, n, wrong) {
				if got := impl.RampStep(a[0], a[1], a[2]); got != 0 {
					t.Errorf("RampStep of %v is %d", a, got)
				}
			}
		}
	}
}

// P58: absolute values below, at and above the width, on both sides, written by hand.
func TestDeadBandOfCases(t *testing.T) {
	cases := []struct{ x, width, want int }{
		{-7, 5, -2},
		{7, 5, 2},
		{5, 5, 0},
		{-5, 5, 0},
		{6, 5, 1},
		{-6, 5, -1},
		{4, 5, 0},
		{-4, 5, 0},
		{0, 5, 0},
		{0, 0, 0},
		{1, 0, 1},
		{-1, 0, -1},
		{1, 1, 0},
		{-1, 1, 0},
		{2, 1, 1},
		{-2, 1, -1},
		{32767, 0, 32767},
		{-32768, 0, -32768},
		{32767, 1, 32766},
		{-32768, 1, -32767},
		{32767, 32767, 0},
		{-32767, 32767, 0},
		{-32768, 32767, -1},
		{32766, 32767, 0},
		{32767, 32766, 1},
		{-32768, 32766, -2},
	}
	for _, c := range cases {
		if got := impl.DeadBand(c.x, c.width); got != c.want {
			t.Errorf("DeadBand(%d, %d) = %d, not %d", c.x, c.width, got, c.want)
		}
	}
}

// P58: for every word the result is 0 or has its sign, its absolute value is less by the width, and that of the opposite word is opposite.
func TestDeadBand(t *testing.T) {
	for _, width := range amounts {
		for x := lowWord; x <= topWord; x++ {
			got := impl.DeadBand(x, width)
			if absolute(x) <= width {
				if got != 0 {
					t.Fatalf("DeadBand(%d, %d) = %d", x, width, got)
				}
			} else if absolute(got) != absolute(x)-width || x > 0 && got <= 0 || x < 0 && got >= 0 {
				t.Fatalf("DeadBand(%d, %d) = %d", x, width, got)
			}
			// The opposite of the lowest word is no word.
			if x != lowWord && impl.DeadBand(-x, width) != -got {
				t.Fatalf("DeadBand(%d, %d) = %d, but for %d it is %d", x, width, got, -x, impl.DeadBand(-x, width))
			}
		}
	}
}

// P58: every width, for the words around it on both sides.
func TestDeadBandOfEveryWidth(t *testing.T) {
	for width := range topWord + 1 {
		for above := -2; above <= 2; above++ {
			x := width + above
			if x < 0 || x > topWord {
				continue
			}
			want := max(above, 0)
			if a, b := impl.DeadBand(x, width), impl.DeadBand(-x, width); a != want || b != -want {
				t.Fatalf("DeadBand with the width %d: %d leads to %d, and %d to %d", width, x, a, -x, b)
			}
		}
	}
}

// P58: without a word and a width the result is 0.
func TestDeadBandOfWrongArguments(t *testing.T) {
	for _, x := range noWords {
		for _, width := range slices.Concat(amounts, noAmounts) {
			if got := impl.DeadBand(x, width); got != 0 {
				t.Errorf("DeadBand(%d, %d) = %d", x, width, got)
			}
		}
	}
	for _, width := range noAmounts {
		for _, x := range someWords {
			if got := impl.DeadBand(x, width); got != 0 {
				t.Errorf("DeadBand(%d, %d) = %d", x, width, got)
			}
		}
	}
}

// P59: averages that are not whole, of negative words too, and windows longer than the list, written by hand.
func TestMovingAverageOfCases(t *testing.T) {
	cases := []struct {
		name   string
		list   []int
		window int
		want   []int
	}{
		{"no word", nil, 3, nil},
		{"no word, empty list", []int{}, 1, nil},
		{"one word", []int{-7}, 3, []int{-7}},
		{"one word, largest window", []int{9}, 50, []int{9}},
		{"window 1", []int{3, -4, 5, lowWord, topWord}, 1, []int{3, -4, 5, lowWord, topWord}},
		{"window 2", []int{1, 2, 4, -9}, 2, []int{1, 1, 3, -3}},
		{"window 3", []int{1, 2, 4, -9, 6}, 3, []int{1, 1, 2, -1, 0}},
		{"window as long as the list", []int{1, 2, 4, -9}, 4, []int{1, 1, 2, -1}},
		{"window longer than the list", []int{1, 2, 4, -9}, 5, []int{1, 1, 2, -1}},
		{"largest window", []int{1, 2, 4, -9}, 50, []int{1, 1, 2, -1}},
		{"positive halves", []int{0, 1, 2, 5}, 2, []int{0, 0, 1, 3}},
		{"negative halves", []int{0, -1, -2, -5}, 2, []int{0, -1, -2, -4}},
		{"negative thirds", []int{0, 0, -1, -1, 0}, 3, []int{0, 0, -1, -1, -1}},
		{"a little below 0", []int{0, 0, 0, -1}, 4, []int{0, 0, 0, -1}},
		{"a little above 0", []int{0, 0, 0, 1}, 4, []int{0, 0, 0, 0}},
		{"whole negative means", []int{-2, -4, -6}, 2, []int{-2, -3, -5}},
		{"equal words", []int{-5, -5, -5, -5}, 3, []int{-5, -5, -5, -5}},
		{"words leave the window", []int{100, 0, 0, 0, 0}, 2, []int{100, 50, 0, 0, 0}},
		{"greatest words", []int{topWord, topWord, topWord}, 2, []int{topWord, topWord, topWord}},
		{"least words", []int{lowWord, lowWord, lowWord}, 2, []int{lowWord, lowWord, lowWord}},
		{"both ends", []int{lowWord, topWord, topWord, lowWord}, 2, []int{lowWord, -1, topWord, -1}},
	}
	for _, c := range cases {
		if got := impl.MovingAverage(c.list, c.window); !slices.Equal(got, c.want) {
			t.Errorf("%s: %v, not %v", c.name, got, c.want)
		}
	}
}

// checkAverages checks the averages of at most 200 words: each is the mean of its words, rounded down, and is between the least and the greatest of them.
func checkAverages(t *testing.T, list []int, window int) {
	t.Helper()
	got := impl.MovingAverage(list, window)
	if len(got) != len(list) {
		t.Fatalf("MovingAverage of %v with the window %d has %d values", list, window, len(got))
	}
	if window == 1 && !slices.Equal(got, list) {
		t.Fatalf("MovingAverage of %v with the window 1 is %v", list, got)
	}
	for n, average := range got {
		first := n + 1 - window
		if first < 0 {
			first = 0
		}
		part := list[first : n+1]
		sum := 0
		for _, x := range part {
			sum += x
		}
		if !isQuotientDown(average, sum, len(part)) || average < slices.Min(part) || average > slices.Max(part) {
			t.Fatalf("MovingAverage of %v with the window %d: value %d is %d", list, window, n, average)
		}
	}
}

// P59: generated lists of every length, with windows of every size.
func TestMovingAverage(t *testing.T) {
	r := rand.New(rand.NewPCG(59, 0))
	small := func(size int) []int {
		list := make([]int, size)
		for n := range list {
			list[n] = r.IntN(9) - 5
		}
		return list
	}
	for size := range mostAveraged + 1 {
		for _, window := range []int{1, 2, 3, 1 + r.IntN(mostWindow), 1 + r.IntN(mostWindow), mostWindow - 1, mostWindow} {
			checkAverages(t, wordsOf(r, size), window)
			checkAverages(t, small(size), window)
		}
	}
	for window := 1; window <= mostWindow; window++ {
		for _, size := range []int{0, 1, window - 1, window, window + 1, 2 * window, mostAveraged} {
			checkAverages(t, wordsOf(r, size), window)
			checkAverages(t, small(size), window)
		}
	}
}

// P59: all lists of up to 5 words of a few small ones, with all windows up to 6.
func TestMovingAverageOfShortLists(t *testing.T) {
	for size := range 6 {
		for _, list := range listsOf([]int{-3, -1, 0, 2}, size) {
			for window := 1; window <= 6; window++ {
				checkAverages(t, list, window)
			}
		}
	}
}

// listsOf returns all lists of a length with some words.
func listsOf(words []int, size int) [][]int {
	lists := [][]int{nil}
	for range size {
		var longer [][]int
		for _, list := range lists {
			for _, x := range words {
				longer = append(longer, append(slices.Clone(list), x))
			}
		}
		lists = longer
	}
	return lists
}

// P59: equal words have this word as their average, at the ends of the range too.
func TestAveragesOfEqualWords(t *testing.T) {
	for _, x := range someWords {
		for _, size := range []int{1, 2, 49, 50, 51, mostAveraged} {
			list := slices.Repeat([]int{x}, size)
			for _, window := range []int{1, 2, 3, 7, 49, mostWindow} {
				if got := impl.MovingAverage(list, window); !slices.Equal(got, list) {
					t.Fatalf("MovingAverage of %d times %d with the window %d is %v", size, x, window, got)
				}
			}
		}
	}
}

// P59: there are no averages of more than 200 words, or with a window that is not in 1..50.
func TestLimitsOfAverages(t *testing.T) {
	for _, size := range []int{0, 1, 50, 51, 199, 200, 201, 202, 256, 400, 1000, 70000} {
		list := slices.Repeat([]int{7}, size)
		for _, window := range append([]int{-50, -2, -1, 0, 1, 2, 49, 50, 51, 52, 64, 100, 200, 256, 257}, noWords...) {
			want := 0
			if size <= 200 && window >= 1 && window <= 50 {
				want = size
			}
			if got := impl.MovingAverage(list, window); len(got) != want {
				t.Errorf("MovingAverage of %d words with the window %d has %d values", size, window, len(got))
			}
		}
	}
}

// P59: a single number that is no word, wherever it is, leaves no averages, also if the mean of it and others would be a word.
func TestAveragesOfNoWords(t *testing.T) {
	for _, size := range []int{1, 2, 3, 50, mostAveraged} {
		for _, n := range []int{0, size / 2, size - 1} {
			for _, list := range withWrong(slices.Repeat([]int{3}, size), n, noWords) {
				for _, window := range []int{1, 2, mostWindow} {
					if got := impl.MovingAverage(list, window); len(got) != 0 {
						t.Fatalf("MovingAverage of %d numbers, number %d being %d, is %v", size, n, list[n], got)
					}
				}
			}
		}
	}
	for _, list := range [][]int{{40000, -40000}, {math.MaxInt, math.MinInt}, {0, math.MaxInt, math.MaxInt, 2}} {
		if got := impl.MovingAverage(list, 2); len(got) != 0 {
			t.Errorf("MovingAverage of %v is %v", list, got)
		}
	}
}

// P60: medians of odd and even numbers of words, and of equal words, written by hand.
func TestMedianOfCases(t *testing.T) {
	cases := []struct {
		list []int
		want int
	}{
		{nil, 0},
		{[]int{}, 0},
		{[]int{4}, 4},
		{[]int{-4}, -4},
		{[]int{lowWord}, lowWord},
		{[]int{topWord}, topWord},
		{[]int{4, 6}, 0},
		{[]int{4, 4}, 0},
		{[]int{5, 1, 3}, 3},
		{[]int{1, 3, 5}, 3},
		{[]int{5, 3, 1}, 3},
		{[]int{3, 5, 1}, 3},
		{[]int{7, 7, 7}, 7},
		{[]int{7, 7, 1}, 7},
		{[]int{1, 7, 1}, 1},
		{[]int{-5, -1, -3}, -3},
		{[]int{-5, 5, 0}, 0},
		{[]int{topWord, lowWord, 12}, 12},
		{[]int{topWord, topWord, lowWord}, topWord},
		{[]int{lowWord, topWord, lowWord}, lowWord},
		{[]int{1, 2, 3, 4}, 0},
		{[]int{9, 2, 8, 3, 7}, 7},
		{[]int{2, 2, 3, 3, 3}, 3},
		{[]int{10, 9, 100}, 10},
		{[]int{14, 1, 13, 2, 12, 3, 11, 4, 10, 5, 9, 6, 8, 7}, 0},
		{[]int{15, 1, 14, 2, 13, 3, 12, 4, 11, 5, 10, 6, 9, 7, 8}, 8},
		{[]int{16, 1, 15, 2, 14, 3, 13, 4, 12, 5, 11, 6, 10, 7, 9, 8}, 0},
		{[]int{17, 1, 16, 2, 15, 3, 14, 4, 13, 5, 12, 6, 11, 7, 10, 8, 9}, 0},
	}
	for _, c := range cases {
		if got := impl.MedianOf(c.list); got != c.want {
			t.Errorf("the median of %v is %d, not %d", c.list, got, c.want)
		}
	}
}

// checkMedian checks the median of an odd number of words: it is one of them, at most half of them are less, at most half are greater, and in the reverse order it is the same.
func checkMedian(t *testing.T, list []int) {
	t.Helper()
	got := impl.MedianOf(list)
	less, more := 0, 0
	for _, x := range list {
		if x < got {
			less++
		}
		if x > got {
			more++
		}
	}
	if !slices.Contains(list, got) || less > len(list)/2 || more > len(list)/2 {
		t.Fatalf("the median of %v is %d", list, got)
	}
	back := slices.Clone(list)
	slices.Reverse(back)
	if other := impl.MedianOf(back); other != got {
		t.Fatalf("the median of %v is %d, but in the reverse order %d", list, got, other)
	}
}

// P60: all lists of 1, 3 and 5 words of a few, equal ones among them, so that all orders occur.
func TestMedianOfShortLists(t *testing.T) {
	for _, size := range []int{1, 3, 5} {
		for _, list := range listsOf([]int{-7, -1, 2, 3, 9}, size) {
			checkMedian(t, list)
		}
	}
}

// P60: generated lists of every odd length, in several orders; of every even length there is none.
func TestMedianOf(t *testing.T) {
	r := rand.New(rand.NewPCG(60, 0))
	for size := range mostMedian + 4 {
		for n := range 400 {
			list := wordsOf(r, size)
			if n%2 == 0 {
				// Few different words, so that many are equal; none is 0.
				for k := range list {
					list[k] = 2*r.IntN(4) - 3
				}
			}
			if size%2 == 0 || size > mostMedian {
				if got := impl.MedianOf(list); got != 0 {
					t.Fatalf("the median of %v is %d", list, got)
				}
				continue
			}
			checkMedian(t, list)
			want := impl.MedianOf(list)
			for range 5 {
				r.Shuffle(len(list), func(a int, b int) { list[a], list[b] = list[b], list[a] })
				if got := impl.MedianOf(list); got != want {
					t.Fatalf("the median of %v is %d, but in another order %d", list, got, want)
				}
			}
		}
	}
}

// P60: there is a median of 1 to 15 words, if the number is odd.
func TestLengthOfMedians(t *testing.T) {
	for _, size := range []int{0, 1, 2, 3, 13, 14, 15, 16, 17, 18, 31, 33, 255, 257, 1001, 70001} {
		want := 0
		if size%2 == 1 && size <= 15 {
			want = 7
		}
		if got := impl.MedianOf(slices.Repeat([]int{7}, size)); got != want {
			t.Errorf("the median of %d times 7 is %d", size, got)
		}
	}
}

// P60: a single number that is no word, wherever it is, leaves no median, though it would not be the middle one.
func TestMedianOfNoWords(t *testing.T) {
	for _, size := range []int{1, 3, 5, mostMedian} {
		for n := range size {
			for _, list := range withWrong(slices.Repeat([]int{7}, size), n, noWords) {
				if got := impl.MedianOf(list); got != 0 {
					t.Fatalf("the median of %v is %d", list, got)
				}
			}
		}
	}
}

// The words and their spare capacity are not changed, and the averages share no memory with them.
func TestArithmeticChangesNoArgument(t *testing.T) {
	r := rand.New(rand.NewPCG(7, 0))
	for _, size := range []int{0, 1, 2, 3, 5, 14, 15, 16, 50, 51, 199, mostAveraged, mostAveraged + 1} {
		for _, list := range [][]int{wordsOf(r, size), slices.Repeat([]int{5}, size), slices.Repeat([]int{3, topWord + 1}, size)[:size]} {
			for _, window := range []int{0, 1, 2, 7, mostWindow, mostWindow + 1} {
				checkOwnMemory(t, fmt.Sprintf("MovingAverage with the window %d", window), impl.Image{Words: list}, func(m impl.Image) impl.Image {
					return impl.Image{Words: impl.MovingAverage(m.Words, window)}
				})
			}
			checkOwnMemory(t, "MedianOf", impl.Image{Words: list}, func(m impl.Image) impl.Image {
				return impl.Image{Words: []int{impl.MedianOf(m.Words)}}
			})
		}
	}
}

// Words in the spare capacity of a list do not count.
func TestSpareCapacityOfWords(t *testing.T) {
	list := []int{9, 1, 5, lowWord, lowWord, topWord + 1}
	if got := impl.MedianOf(list[:3]); got != 5 {
		t.Errorf("the median is %d", got)
	}
	if got := impl.MovingAverage(list[:3], 2); !slices.Equal(got, []int{9, 5, 3}) {
		t.Errorf("the averages are %v", got)
	}
}
