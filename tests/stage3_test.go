package tests

import (
	"fmt"
	"math"
	"math/rand/v2"
	"slices"
	"testing"

	"loop.example/plcruntime/impl"
)

// The limit and the kinds are repeated here as numbers of the document's table, so that a wrong constant is found.
const mostRungs = 12

const (
	kindAssign = 1
	kindSet    = 2
	kindReset  = 3
)

type ladder = []impl.Rung

func assign(coil int, logic ...impl.Node) impl.Rung {
	return impl.Rung{Logic: logic, Coil: coil, Kind: kindAssign}
}

func set(coil int, logic ...impl.Node) impl.Rung {
	return impl.Rung{Logic: logic, Coil: coil, Kind: kindSet}
}

func reset(coil int, logic ...impl.Node) impl.Rung {
	return impl.Rung{Logic: logic, Coil: coil, Kind: kindReset}
}

// unknownKinds are numbers that are not kinds of coils.
func unknownKinds() []int {
	return append([]int{0, 4, 5, 6, 7, -2, -3, 1 << 32, 1<<32 + 1, 257, 258}, extremes...)
}

// wantRungValid is RungValid by the reference.
func wantRungValid(r impl.Rung, bits int) bool {
	return wantValid(r.Logic, bits) && r.Coil >= 0 && r.Coil < bits && slices.Contains([]int{kindAssign, kindSet, kindReset}, r.Kind)
}

// after is RunRung by the reference, for the bits of a valid image and a rung that is valid for them.
func after(bits []bool, r impl.Rung) []bool {
	_, value := reference(r.Logic, len(r.Logic), bits)
	result := slices.Clone(bits)
	if r.Kind == kindAssign {
		result[r.Coil] = value
	}
	if r.Kind == kindSet && value {
		result[r.Coil] = true
	}
	if r.Kind == kindReset && value {
		result[r.Coil] = false
	}
	return result
}

// afterAll is RunLadder by the reference, for the bits of a valid image and a ladder that is valid for them.
func afterAll(bits []bool, list ladder) []bool {
	for _, r := range list {
		bits = after(bits, r)
	}
	return bits
}

// wantCoils returns the coils in 0..MaxBits-1 that occur at least so many times, counting only the rungs that a test lets through.
func wantCoils(list ladder, least int, counts func(impl.Rung) bool) []int {
	var coils []int
	for bit := range mostBits {
		count := 0
		for _, r := range list {
			if r.Coil == bit && counts(r) {
				count++
			}
		}
		if count >= least {
			coils = append(coils, bit)
		}
	}
	return coils
}

func anyRung(impl.Rung) bool {
	return true
}

func assigns(r impl.Rung) bool {
	return r.Kind == kindAssign
}

// wantIndependent is RungsIndependent by the reference.
func wantIndependent(a impl.Rung, b impl.Rung) bool {
	if !wantRungValid(a, mostBits) || !wantRungValid(b, mostBits) {
		return false
	}
	return a.Coil != b.Coil && !slices.Contains(a.Logic, bitNode(b.Coil)) && !slices.Contains(b.Logic, bitNode(a.Coil))
}

// someRung returns a valid rung for a number of bits, at least 1.
func someRung(r *rand.Rand, bits int) impl.Rung {
	size := 1 + r.IntN(5)
	if r.IntN(8) == 0 {
		size = 1 + r.IntN(mostNodes)
	}
	return impl.Rung{Logic: expression(r, size, bits), Coil: r.IntN(bits), Kind: kindAssign + r.IntN(3)}
}

func someLadder(r *rand.Rand, rungs int, bits int) ladder {
	list := make(ladder, rungs)
	for n := range list {
		list[n] = someRung(r, bits)
	}
	return list
}

// ladders are valid ladders of all lengths for a number of bits; without bits only the empty one is valid.
func ladders(bits int) []ladder {
	if bits == 0 {
		return []ladder{nil, {}}
	}
	r := rand.New(rand.NewPCG(3, uint64(bits)))
	var list []ladder
	for rungs := range mostRungs + 1 {
		for range 8 {
			list = append(list, someLadder(r, rungs, bits))
		}
	}
	return list
}

// invalidRungs are rungs that are invalid for MaxBits bits and any fewer, for one reason each.
func invalidRungs() map[string]impl.Rung {
	rungs := map[string]impl.Rung{
		"the zero value":         {},
		"a coil below 0":         assign(-1, yes),
		"a coil past the end":    assign(mostBits, yes),
		"a set coil below 0":     set(-1, no),
		"a reset coil too large": reset(mostBits, no),
		"a coil far below 0":     set(math.MinInt, yes),
		"a coil far too large":   reset(math.MaxInt, yes),
	}
	for _, kind := range unknownKinds() {
		rungs[fmt.Sprintf("kind %d", kind)] = impl.Rung{Logic: nodes{yes}, Kind: kind}
	}
	for name, list := range invalidLists() {
		rungs[name] = assign(0, list...)
		rungs[name+", set"] = set(0, list...)
		rungs[name+", reset"] = reset(0, list...)
	}
	return rungs
}

// allRows are all lists of a number of bits; for many bits the patterns.
func allRows(bits int) [][]bool {
	if bits > 6 {
		return patterns(bits)
	}
	rows := make([][]bool, 1<<bits)
	for x := range rows {
		rows[x] = row(x, bits)
	}
	return rows
}

func copiedLadder(list ladder) ladder {
	result := slices.Clone(list)
	for n := range result {
		result[n].Logic = slices.Clone(result[n].Logic)
	}
	return result
}

func sameRung(a impl.Rung, b impl.Rung) bool {
	return slices.Equal(a.Logic, b.Logic) && a.Coil == b.Coil && a.Kind == b.Kind
}

// roomyLadder returns an equal ladder with further rungs in its spare capacity, and further elements in that of its expressions.
func roomyLadder(list ladder) ladder {
	result := make(ladder, 0, len(list)+2)
	for _, r := range list {
		r.Logic = with(r.Logic, yes, or, x1)[:len(r.Logic)]
		result = append(result, r)
	}
	return append(result, assign(0, yes), reset(1, yes))[:len(list)]
}

// wholeLadder is a ladder with the spare capacity of the list and of its expressions.
func wholeLadder(list ladder) ladder {
	result := slices.Clone(list[:cap(list)])
	for n, r := range result {
		result[n].Logic = r.Logic[:cap(r.Logic)]
	}
	return result
}

// checkLadder calls a function with a ladder and checks that it leaves all memory of the ladder unchanged.
func checkLadder(t *testing.T, list ladder, f func(list ladder)) {
	t.Helper()
	arg := roomyLadder(list)
	before := copiedLadder(wholeLadder(arg))
	f(arg)
	if !slices.EqualFunc(wholeLadder(arg), before, sameRung) {
		t.Fatalf("the ladder %v was changed to %v", before, wholeLadder(arg))
	}
}

func TestLadderConstants(t *testing.T) {
	kinds := []int{impl.CoilAssign, impl.CoilSet, impl.CoilReset}
	if !slices.Equal(kinds, []int{1, 2, 3}) || impl.MaxRungs != mostRungs {
		t.Fatal(kinds, impl.MaxRungs)
	}
}

// P31: the expression of a valid rung is valid for the bits.
func TestRungValidExpression(t *testing.T) {
	for bits := range mostBits + 2 {
		checkLists(t, bits, func(list nodes) {
			for _, coil := range []int{0, bits - 1, bits} {
				r := impl.Rung{Logic: list, Coil: coil, Kind: kindAssign + len(list)%3}
				if got := impl.RungValid(r, bits); got != wantRungValid(r, bits) {
					t.Fatalf("RungValid(%v, %d) = %v", r, bits, got)
				}
			}
		})
	}
}

// P31: a valid rung drives an existing bit, in one of the three ways.
func TestRungValidCoilAndKind(t *testing.T) {
	numbers := append([]int{-2, 0, 1, 2, 7, 15, 16, 18, 99}, extremes...)
	for _, bits := range numbers {
		for _, coil := range append(numbers, bits-1, bits, bits+1) {
			for _, kind := range append(unknownKinds(), kindAssign, kindSet, kindReset) {
				r := impl.Rung{Logic: nodes{yes}, Coil: coil, Kind: kind}
				want := coil >= 0 && coil < bits && 1 <= kind && kind <= 3
				if got := impl.RungValid(r, bits); got != want {
					t.Fatalf("RungValid(%v, %d) = %v", r, bits, got)
				}
			}
		}
	}
}

// P31: a valid rung stays valid for more bits; with the number of bits as its coil, or an unknown kind, it is invalid.
func TestValidRungWithMore(t *testing.T) {
	for bits := 1; bits <= mostBits; bits++ {
		r := rand.New(rand.NewPCG(31, uint64(bits)))
		for range 200 {
			valid := someRung(r, bits)
			for _, more := range []int{bits, bits + 1, bits + 2, mostBits, mostBits + 1, 1000, math.MaxInt} {
				if more >= bits && !impl.RungValid(valid, more) {
					t.Fatalf("%v is not valid for %d bits", valid, more)
				}
			}
			for _, coil := range append([]int{bits, bits + 1, bits + 16, bits + 64, -1, -bits}, extremes...) {
				x := valid
				x.Coil = coil
				if (coil < 0 || coil >= bits) && impl.RungValid(x, bits) {
					t.Fatalf("%v is valid for %d bits", x, bits)
				}
			}
			for _, kind := range unknownKinds() {
				x := valid
				x.Kind = kind
				if impl.RungValid(x, bits) {
					t.Fatalf("%v is valid for %d bits", x, bits)
				}
			}
		}
	}
}

func TestInvalidRungs(t *testing.T) {
	for name, r := range invalidRungs() {
		for _, bits := range []int{math.MinInt, -1, 0, 1, 2, 8, mostBits} {
			if impl.RungValid(r, bits) || impl.LadderValid(ladder{r}, bits) {
				t.Errorf("%s: %v is valid for %d bits", name, r, bits)
			}
		}
	}
}

// P32: the empty ladder is valid for every number of bits.
func TestEmptyLadderIsValid(t *testing.T) {
	for _, bits := range append([]int{-2, 0, 1, 2, 15, 16, 18, 99}, extremes...) {
		if !impl.LadderValid(nil, bits) || !impl.LadderValid(ladder{}, bits) || !impl.LadderValid(roomyLadder(nil), bits) {
			t.Errorf("the empty ladder is invalid for %d bits", bits)
		}
	}
}

// P32: a valid ladder has at most MaxRungs rungs, all valid; a prefix of it is valid.
func TestLadderValid(t *testing.T) {
	for bits := range mostBits + 1 {
		for _, list := range ladders(bits) {
			checkLadder(t, list, func(list ladder) {
				for _, b := range []int{-1, 0, bits - 1, bits, bits + 1, mostBits, mostBits + 1, 1000} {
					want := !slices.ContainsFunc(list, func(r impl.Rung) bool { return !wantRungValid(r, b) })
					if got := impl.LadderValid(list, b); got != want {
						t.Fatalf("LadderValid(%v, %d) = %v", list, b, got)
					}
				}
			})
			for n := range list {
				if !impl.LadderValid(list[:n], bits) {
					t.Fatalf("the first %d rungs of %v are invalid", n, list)
				}
			}
		}
	}
}

func TestNumberOfRungs(t *testing.T) {
	for count := range 40 {
		for _, r := range []impl.Rung{assign(0, yes), set(1, x0), reset(0, x1, not)} {
			if got := impl.LadderValid(slices.Repeat(ladder{r}, count), 2); got != (count <= mostRungs) {
				t.Errorf("%d times %v is valid: %v", count, r, got)
			}
		}
	}
}

// One invalid rung makes a ladder invalid, wherever it is.
func TestLadderWithInvalidRung(t *testing.T) {
	r := rand.New(rand.NewPCG(32, 0))
	for name, invalid := range invalidRungs() {
		for _, count := range []int{0, 1, 3, mostRungs - 1} {
			for at := range count + 1 {
				list := slices.Insert(someLadder(r, count, 4), at, invalid)
				m := impl.Image{Bits: make([]bool, 4), Words: []int{5}}
				if impl.LadderValid(list, 4) || impl.LadderValid(list, mostBits) {
					t.Fatalf("%s: valid as rung %d of %d", name, at, count+1)
				}
				if x := impl.RunLadder(m, list); !empty(x) {
					t.Fatalf("%s: executed as rung %d of %d: %v", name, at, count+1, x)
				}
			}
		}
	}
}

// P33: every kind with every value of the expression and of the coil before.
func TestRunRungOfKinds(t *testing.T) {
	cases := []struct {
		kind          int
		value, before bool
		want          bool
	}{
		{kindAssign, false, false, false},
		{kindAssign, false, true, false},
		{kindAssign, true, false, true},
		{kindAssign, true, true, true},
		{kindSet, false, false, false},
		{kindSet, false, true, true},
		{kindSet, true, false, true},
		{kindSet, true, true, true},
		{kindReset, false, false, false},
		{kindReset, false, true, true},
		{kindReset, true, false, false},
		{kindReset, true, true, false},
	}
	for _, c := range cases {
		for coil := range mostBits {
			for _, others := range []bool{false, true} {
				value := no
				if c.value {
					value = yes
				}
				bits := slices.Repeat([]bool{others}, mostBits)
				bits[coil] = c.before
				want := slices.Clone(bits)
				want[coil] = c.want
				m := impl.Image{Bits: bits, Words: []int{topWord, lowWord, 3}}
				got := impl.RunRung(m, impl.Rung{Logic: nodes{value}, Coil: coil, Kind: c.kind})
				if !same(got, impl.Image{Bits: want, Words: m.Words}) {
					t.Errorf("kind %d, value %v, coil %d, which is %v: %v", c.kind, c.value, coil, c.before, got)
				}
			}
		}
	}
}

// A rung that uses its own coil uses the value before the rung.
func TestRungWithItsOwnCoil(t *testing.T) {
	cases := []struct {
		name string
		rung impl.Rung
		want [2]bool // the coil after the rung, for false and true before
	}{
		{"assigns the coil", assign(0, x0), [2]bool{false, true}},
		{"assigns the negation", assign(0, x0, not), [2]bool{true, false}},
		{"assigns a contradiction", assign(0, x0, x0, xor), [2]bool{false, false}},
		{"sets where true", set(0, x0), [2]bool{false, true}},
		{"sets where false", set(0, x0, not), [2]bool{true, true}},
		{"resets where true", reset(0, x0), [2]bool{false, false}},
		{"resets where false", reset(0, x0, not), [2]bool{false, true}},
	}
	for _, c := range cases {
		for k, before := range []bool{false, true} {
			m := impl.Image{Bits: []bool{before, true}}
			if got := impl.RunRung(m, c.rung); !slices.Equal(got.Bits, []bool{c.want[k], true}) {
				t.Errorf("%s: %v becomes %v", c.name, m, got)
			}
		}
	}
}

// P33: a rung changes only its coil, as the reference does, for images of all sizes and every expression.
func TestRunRung(t *testing.T) {
	for bits := 1; bits <= mostBits; bits++ {
		rows := allRows(bits)
		r := rand.New(rand.NewPCG(33, uint64(bits)))
		for n := range 150 {
			rung := someRung(r, bits)
			rung.Kind = kindAssign + n%3
			for _, values := range rows {
				m := impl.Image{Bits: slices.Clone(values), Words: []int{n, lowWord, topWord}}
				got := impl.RunRung(m, rung)
				if !same(got, impl.Image{Bits: after(values, rung), Words: m.Words}) {
					t.Fatalf("RunRung(%v, %v) = %v", m, rung, got)
				}
				checkOnlyCoil(t, m, rung, got)
			}
		}
	}
}

func checkOnlyCoil(t *testing.T, m impl.Image, r impl.Rung, got impl.Image) {
	t.Helper()
	for _, bit := range impl.ChangedBits(m, got) {
		if bit != r.Coil {
			t.Fatalf("%v changes bit %d of %v", r, bit, m)
		}
	}
	before, now := impl.GetBit(m, r.Coil), impl.GetBit(got, r.Coil)
	switch {
	case r.Kind == kindAssign && now != impl.EvalLogic(m, r.Logic):
		t.Fatalf("%v assigns %v to the coil of %v", r, now, m)
	case r.Kind == kindSet && before && !now:
		t.Fatalf("%v resets the coil of %v", r, m)
	case r.Kind == kindReset && !before && now:
		t.Fatalf("%v sets the coil of %v", r, m)
	}
}

// Images of all sizes keep their words, whatever rung is executed.
func TestRunRungOfImages(t *testing.T) {
	for _, m := range images() {
		for coil := -1; coil <= len(m.Bits); coil++ {
			for kind := kindAssign; kind <= kindReset; kind++ {
				r := impl.Rung{Logic: nodes{bitNode(max(0, len(m.Bits)-1)), not}, Coil: coil, Kind: kind}
				var want impl.Image
				if coil >= 0 && coil < len(m.Bits) {
					want = impl.Image{Bits: after(m.Bits, r), Words: m.Words}
				}
				if got := impl.RunRung(m, r); !same(got, want) {
					t.Fatalf("RunRung(%v, %v) = %v", m, r, got)
				}
			}
		}
	}
}

// The zero value is returned, also where the rung would leave the image unchanged.
func TestRunRungOfInvalidArguments(t *testing.T) {
	for name, m := range invalidImages() {
		for _, r := range []impl.Rung{assign(0, yes), set(0, no), reset(0, x0), assign(mostBits, yes)} {
			if x := impl.RunRung(m, r); !empty(x) {
				t.Errorf("%s: RunRung(%v) = %v", name, r, x)
			}
			if x := impl.RunLadder(m, ladder{r}); !empty(x) {
				t.Errorf("%s: RunLadder(%v) = %v", name, r, x)
			}
		}
	}
	for name, r := range invalidRungs() {
		for _, m := range images() {
			if x := impl.RunRung(m, r); !empty(x) {
				t.Fatalf("%s: RunRung(%v, %v) = %v", name, m, r, x)
			}
		}
	}
}

// A rung is to be valid for the bits of the image: that it is for MaxBits bits does not suffice.
func TestRunRungWithTooFewBits(t *testing.T) {
	for bits := range mostBits + 1 {
		m := impl.Image{Bits: slices.Repeat([]bool{true}, bits), Words: []int{1, 2}}
		for number := range mostBits + 2 {
			want := number < bits
			rungs := ladder{assign(number, yes), set(number, no), reset(number, yes), assign(0, bitNode(number)), reset(0, bitNode(number))}
			for _, r := range rungs {
				if got := impl.RunRung(m, r); empty(got) == want {
					t.Errorf("RunRung(%d bits, %v) = %v", bits, r, got)
				}
				if got := impl.RunLadder(m, ladder{r}); empty(got) == want {
					t.Errorf("RunLadder(%d bits, %v) = %v", bits, r, got)
				}
			}
		}
	}
}

// P34: every rung finds the bits as the rungs before it leave them.
func TestRunLadderInOrder(t *testing.T) {
	cases := []struct {
		name         string
		list         ladder
		before, want []bool
	}{
		{"no rungs", nil, []bool{true, false}, []bool{true, false}},
		{"a chain", ladder{assign(1, x0), assign(2, x1)}, []bool{true, false, false}, []bool{true, true, true}},
		{"a chain upwards", ladder{assign(2, x1), assign(1, x0)}, []bool{true, false, false}, []bool{true, true, false}},
		{"no exchange", ladder{assign(0, x1), assign(1, x0)}, []bool{true, false}, []bool{false, false}},
		{"an exchange", ladder{assign(2, x0), assign(0, x1), assign(1, x2)}, []bool{true, false, false}, []bool{false, true, true}},
		{"a toggle twice", ladder{assign(0, x0, not), assign(0, x0, not)}, []bool{true}, []bool{true}},
		{"a toggle, used in between", ladder{assign(0, x0, not), assign(1, x0), assign(0, x0, not)}, []bool{false, false}, []bool{false, true}},
		{"an interlock", ladder{assign(2, x0, bitNode(3), not, and), assign(3, x1, x2, not, and)}, []bool{true, true, false, false}, []bool{true, true, true, false}},
	}
	for _, c := range cases {
		if got := impl.RunLadder(impl.Image{Bits: c.before, Words: []int{7}}, c.list); !same(got, impl.Image{Bits: c.want, Words: []int{7}}) {
			t.Errorf("%s: %v becomes %v", c.name, c.before, got)
		}
	}
}

// A bit may have several coils: all of them are executed, in order.
func TestBitWithSeveralCoils(t *testing.T) {
	cases := []struct {
		name string
		list ladder
		want [2]bool // bit 0 after the ladder, for false and true before
	}{
		{"assigned true, then false", ladder{assign(0, yes), assign(0, no)}, [2]bool{false, false}},
		{"assigned false, then true", ladder{assign(0, no), assign(0, yes)}, [2]bool{true, true}},
		{"set, then reset", ladder{set(0, yes), reset(0, yes)}, [2]bool{false, false}},
		{"reset, then set", ladder{reset(0, yes), set(0, yes)}, [2]bool{true, true}},
		{"set twice, the second time not", ladder{set(0, yes), set(0, no)}, [2]bool{true, true}},
		{"set twice, the first time not", ladder{set(0, no), set(0, yes)}, [2]bool{true, true}},
		{"reset twice, the second time not", ladder{reset(0, yes), reset(0, no)}, [2]bool{false, false}},
		{"reset twice, the first time not", ladder{reset(0, no), reset(0, yes)}, [2]bool{false, false}},
		{"not set and not reset", ladder{set(0, no), reset(0, no)}, [2]bool{false, true}},
		{"assigned true, then reset", ladder{assign(0, yes), reset(0, yes)}, [2]bool{false, false}},
		{"assigned true, then not reset", ladder{assign(0, yes), reset(0, no)}, [2]bool{true, true}},
		{"assigned false, then set", ladder{assign(0, no), set(0, yes)}, [2]bool{true, true}},
		{"assigned false, then not set", ladder{assign(0, no), set(0, no)}, [2]bool{false, false}},
		{"set, then assigned false", ladder{set(0, yes), assign(0, no)}, [2]bool{false, false}},
		{"reset, then assigned true", ladder{reset(0, yes), assign(0, yes)}, [2]bool{true, true}},
		{"set, then used and negated", ladder{set(0, yes), assign(0, x0, not)}, [2]bool{false, false}},
	}
	for _, c := range cases {
		for k, before := range []bool{false, true} {
			m := impl.Image{Bits: []bool{before, true}}
			if got := impl.RunLadder(m, c.list); !slices.Equal(got.Bits, []bool{c.want[k], true}) {
				t.Errorf("%s: %v becomes %v", c.name, m, got)
			}
		}
	}
}

// P34: executing a ladder is executing its first part and then its second part; only coils of its rungs change.
func TestRunLadder(t *testing.T) {
	for bits := range mostBits + 1 {
		rows := allRows(bits)
		for n, list := range ladders(bits) {
			for _, values := range rows {
				m := impl.Image{Bits: slices.Clone(values), Words: []int{n, topWord, lowWord}}
				got := impl.RunLadder(m, list)
				if !same(got, impl.Image{Bits: afterAll(values, list), Words: m.Words}) {
					t.Fatalf("RunLadder(%v, %v) = %v", m, list, got)
				}
				at := n % (len(list) + 1)
				if parts := impl.RunLadder(impl.RunLadder(m, list[:at]), list[at:]); !same(parts, got) {
					t.Fatalf("RunLadder(%v, %v) = %v, but %v in two parts of which the first has %d rungs", m, list, got, parts, at)
				}
				coils := impl.LadderCoils(list)
				for _, bit := range impl.ChangedBits(m, got) {
					if !slices.Contains(coils, bit) {
						t.Fatalf("%v changes bit %d of %v", list, bit, m)
					}
				}
			}
		}
	}
}

// P34: a ladder is executed as its rungs are, one after the other.
func TestRunLadderIsRunRung(t *testing.T) {
	for bits := 1; bits <= mostBits; bits++ {
		for _, list := range ladders(bits) {
			for _, values := range patterns(bits) {
				m := impl.Image{Bits: values, Words: []int{-1}}
				single := m
				for _, r := range list {
					single = impl.RunRung(single, r)
				}
				if got := impl.RunLadder(m, list); !same(got, single) {
					t.Fatalf("RunLadder(%v, %v) = %v, and %v rung by rung", m, list, got, single)
				}
			}
		}
	}
}

func TestRunLadderOfInvalidArguments(t *testing.T) {
	for name, m := range invalidImages() {
		for _, list := range []ladder{nil, {}, {assign(0, yes)}, {set(0, no)}} {
			if x := impl.RunLadder(m, list); !empty(x) {
				t.Errorf("%s: RunLadder(%v) = %v", name, list, x)
			}
		}
	}
	for _, m := range images() {
		full := slices.Repeat(ladder{set(0, no)}, mostRungs)
		if got := impl.RunLadder(m, full); len(m.Bits) > 0 && !same(got, m) {
			t.Errorf("%d rungs: %v becomes %v", len(full), m, got)
		}
		for _, count := range []int{mostRungs + 1, mostRungs + 2, 1000} {
			if got := impl.RunLadder(m, slices.Repeat(full[:1], count)); !empty(got) {
				t.Errorf("%d rungs: %v becomes %v", count, m, got)
			}
		}
		if got := impl.RunLadder(m, nil); !same(got, m) {
			t.Errorf("without rungs %v becomes %v", m, got)
		}
	}
}

// Results have memory of their own, and neither the image nor the ladder is changed; both for ladders that change the image and for those that do not.
func TestLaddersHaveOwnMemory(t *testing.T) {
	for _, m := range images() {
		r := rand.New(rand.NewPCG(34, uint64(len(m.Bits))))
		list := ladder{set(0, no)}
		if len(m.Bits) > 0 {
			list = append(someLadder(r, 4, len(m.Bits)), assign(0, x0, not), set(len(m.Bits)-1, yes))
		}
		for _, list := range []ladder{nil, list[:1], list} {
			checkLadder(t, list, func(list ladder) {
				checkOwnMemory(t, "RunLadder", m, func(m impl.Image) impl.Image { return impl.RunLadder(m, list) })
			})
		}
		for _, rung := range list {
			checkLadder(t, ladder{rung}, func(list ladder) {
				checkOwnMemory(t, "RunRung", m, func(m impl.Image) impl.Image { return impl.RunRung(m, list[0]) })
			})
		}
	}
	for name, m := range invalidImages() {
		checkOwnMemory(t, name, m, func(m impl.Image) impl.Image { return impl.RunRung(m, assign(0, yes)) })
		checkOwnMemory(t, name, m, func(m impl.Image) impl.Image { return impl.RunLadder(m, nil) })
	}
}

func TestOtherLadderFunctionsChangeNoArgument(t *testing.T) {
	for bits := range mostBits + 1 {
		for _, list := range ladders(bits) {
			checkLadder(t, list, func(list ladder) {
				impl.LadderCoils(list)
				impl.DoubleCoils(list)
				impl.LadderValid(list, bits)
				for n := range list {
					impl.RungValid(list[n], bits)
					impl.RungsIndependent(list[0], list[n])
				}
			})
		}
	}
}

func TestCoilsHaveOwnMemory(t *testing.T) {
	list := ladder{assign(1, yes), assign(2, yes), assign(1, yes), assign(2, no)}
	for name, f := range map[string]func(ladder) []int{"LadderCoils": impl.LadderCoils, "DoubleCoils": impl.DoubleCoils} {
		first := f(list)
		first[0] = 99
		if got := f(list); !slices.Equal(got, []int{1, 2}) {
			t.Errorf("%s: %v after another result has been changed", name, got)
		}
	}
}

// anyLadders are ladders of all kinds: valid ones, and ones with coils, kinds and lengths out of range.
func anyLadders() []ladder {
	var list []ladder
	for bits := range mostBits + 1 {
		list = append(list, ladders(bits)...)
	}
	r := rand.New(rand.NewPCG(35, 0))
	coils := append([]int{-1, -2, -16, 0, 1, 2, 14, 15, 16, 17, 18, 99}, extremes...)
	kinds := append(unknownKinds(), slices.Repeat([]int{kindAssign, kindSet, kindReset}, 8)...)
	for n := range 400 {
		some := make(ladder, n%30)
		for k := range some {
			some[k] = impl.Rung{Coil: coils[r.IntN(len(coils))], Kind: kinds[r.IntN(len(kinds))]}
			if r.IntN(2) == 0 {
				some[k].Logic = nodes{x0}
			}
		}
		list = append(list, some)
	}
	return list
}

// P35: the numbers are ascending, each once, and those of the rungs; DoubleCoils is a part of them.
func TestCoils(t *testing.T) {
	for _, list := range anyLadders() {
		coils, double := impl.LadderCoils(list), impl.DoubleCoils(list)
		if !slices.Equal(coils, wantCoils(list, 1, anyRung)) {
			t.Fatalf("LadderCoils(%v) = %v", list, coils)
		}
		if !slices.Equal(double, wantCoils(list, 2, assigns)) {
			t.Fatalf("DoubleCoils(%v) = %v", list, double)
		}
		for _, bit := range double {
			if !slices.Contains(coils, bit) {
				t.Fatalf("DoubleCoils(%v) has bit %d, and LadderCoils has not", list, bit)
			}
		}
	}
}

func TestCoilsOfLadders(t *testing.T) {
	var many ladder
	for n := range 1000 {
		many = append(many, assign(999-n, yes))
	}
	every := []int{0, 1, 2, 3, 4, 5, 6, 7, 8, 9, 10, 11, 12, 13, 14, 15}
	cases := []struct {
		name          string
		list          ladder
		coils, double []int
	}{
		{"no rungs", nil, nil, nil},
		{"one rung", ladder{assign(3, yes)}, []int{3}, nil},
		{"descending coils", ladder{assign(9, yes), set(4, yes), reset(0, yes)}, []int{0, 4, 9}, nil},
		{"assigned twice", ladder{assign(5, x0), assign(5, x1)}, []int{5}, []int{5}},
		{"assigned three times", ladder{assign(5, x0), assign(5, x1), assign(5, x2)}, []int{5}, []int{5}},
		{"assigned twice, apart", ladder{assign(5, x0), set(1, yes), assign(5, x1)}, []int{1, 5}, []int{5}},
		{"two bits assigned twice", ladder{assign(7, x0), assign(2, x0), assign(7, x1), assign(2, x1)}, []int{2, 7}, []int{2, 7}},
		{"set twice", ladder{set(5, x0), set(5, x1)}, []int{5}, nil},
		{"reset twice", ladder{reset(5, x0), reset(5, x1)}, []int{5}, nil},
		{"set and reset", ladder{set(5, x0), reset(5, x1)}, []int{5}, nil},
		{"assigned, set and reset", ladder{assign(5, x0), set(5, x1), reset(5, x2)}, []int{5}, nil},
		{"assigned twice and set in between", ladder{assign(5, x0), set(5, x1), assign(5, x2)}, []int{5}, []int{5}},
		{"the last bit", ladder{assign(15, x0), assign(15, x0)}, []int{15}, []int{15}},
		{"coils out of range", ladder{assign(-1, x0), assign(-1, x0), assign(16, x0), assign(16, x0), assign(17, x0), assign(17, x0)}, nil, nil},
		{"coils out of range, and bit 0", ladder{assign(16, x0), assign(0, x0), assign(-16, x0), assign(64, x0)}, []int{0}, nil},
		{"the same rung twice", slices.Repeat(ladder{assign(2, x0)}, 2), []int{2}, []int{2}},
		{"invalid expressions", ladder{assign(2), assign(2, not), assign(4, x0, x0)}, []int{2, 4}, []int{2}},
		{"unknown kinds", ladder{{Coil: 2}, {Coil: 2}, {Coil: 3, Kind: 4}, {Coil: 3, Kind: -1}}, []int{2, 3}, nil},
		{"more than MaxRungs rungs", slices.Repeat(ladder{assign(1, yes)}, mostRungs+1), []int{1}, []int{1}},
		{"a second coil past MaxRungs", append(slices.Repeat(ladder{assign(1, yes)}, 40), assign(8, yes), assign(8, no)), []int{1, 8}, []int{1, 8}},
		{"many coils", many, every, nil},
		{"many coils twice", append(slices.Clone(many), many...), every, every},
	}
	for _, c := range cases {
		if got := impl.LadderCoils(c.list); !slices.Equal(got, c.coils) {
			t.Errorf("%s: LadderCoils = %v", c.name, got)
		}
		if got := impl.DoubleCoils(c.list); !slices.Equal(got, c.double) {
			t.Errorf("%s: DoubleCoils = %v", c.name, got)
		}
	}
	for _, coil := range extremes {
		if got := impl.LadderCoils(ladder{set(coil, yes), assign(1, x0)}); !slices.Equal(got, []int{1}) {
			t.Errorf("LadderCoils with coil %d = %v", coil, got)
		}
		if got := impl.DoubleCoils(slices.Repeat(ladder{assign(coil, yes)}, 3)); len(got) != 0 {
			t.Errorf("DoubleCoils with coil %d = %v", coil, got)
		}
	}
}

// away returns a rung that neither uses nor drives a bit, for at least 2 bits.
func away(r *rand.Rand, bits int, bit int) impl.Rung {
	for {
		x := someRung(r, bits)
		if x.Coil != bit && !slices.Contains(x.Logic, bitNode(bit)) {
			return x
		}
	}
}

// P36: of two assignments with nothing between them that uses or drives the bit, the first one can be omitted.
func TestLastAssignmentWins(t *testing.T) {
	r := rand.New(rand.NewPCG(36, 0))
	for n := range 600 {
		bits := 2 + n%5
		bit := r.IntN(bits)
		first, last := someRung(r, bits), away(r, bits, bit)
		first.Coil, first.Kind = bit, kindAssign
		last.Coil, last.Kind = bit, kindAssign
		before, behind := someLadder(r, r.IntN(4), bits), someLadder(r, r.IntN(4), bits)
		between := make(ladder, r.IntN(5))
		for k := range between {
			between[k] = away(r, bits, bit)
		}
		list := slices.Concat(before, ladder{first}, between, ladder{last}, behind)
		fewer := slices.Delete(slices.Clone(list), len(before), len(before)+1)
		if !slices.Contains(impl.DoubleCoils(list), bit) {
			t.Fatalf("bit %d is assigned twice in %v", bit, list)
		}
		for _, values := range allRows(bits) {
			m := impl.Image{Bits: values, Words: []int{9}}
			if a, b := impl.RunLadder(m, list), impl.RunLadder(m, fewer); !same(a, b) || empty(a) {
				t.Fatalf("RunLadder(%v, %v) = %v, and %v without rung %d", m, list, a, b, len(before))
			}
		}
	}
}

// P36: the first assignment matters if a rung after it uses or drives the bit, the second one included.
func TestFirstAssignmentMatters(t *testing.T) {
	cases := []struct {
		name  string
		list  ladder
		coil  int
		value bool
	}{
		{"used in between", ladder{assign(0, yes), assign(1, x0), assign(0, no)}, 1, true},
		{"used by the second", ladder{assign(0, yes), assign(0, x0)}, 0, true},
		{"used by the second, negated", ladder{assign(0, no), assign(0, x0, not)}, 0, true},
		{"used by a set coil in between", ladder{assign(0, yes), set(1, x0), assign(0, no)}, 1, true},
	}
	for _, c := range cases {
		m := impl.Image{Bits: []bool{c.list[0].Logic[0] == no, false}}
		if got := impl.GetBit(impl.RunLadder(m, c.list), c.coil); got != c.value {
			t.Errorf("%s: bit %d is %v", c.name, c.coil, got)
		}
		if got := impl.GetBit(impl.RunLadder(m, c.list[1:]), c.coil); got == c.value {
			t.Errorf("%s: bit %d is %v without the first rung too", c.name, c.coil, got)
		}
	}
}

func TestRungsIndependentOfCases(t *testing.T) {
	x3, x15 := bitNode(3), bitNode(15)
	cases := []struct {
		name string
		a, b impl.Rung
		want bool
	}{
		{"different bits", assign(0, x1), assign(2, x3), true},
		{"a common operand", assign(0, x1), assign(2, x1), true},
		{"constants", assign(0, yes), reset(1, no), true},
		{"the same coil", assign(0, x1), assign(0, x2), false},
		{"the same coil, set twice", set(0, x1), set(0, x2), false},
		{"the same coil, set and reset", set(0, x1), reset(0, x2), false},
		{"the first uses the coil of the second", assign(0, x1), assign(1, x2), false},
		{"the first uses the coil of the second among others", assign(0, x2, x1, not, and), set(1, x2), false},
		{"both use the coil of the other one", assign(0, x1), assign(1, x0), false},
		{"a coil that is used in vain", assign(0, x1, x1, xor), assign(1, yes), false},
		{"both use their own coils", assign(0, x0, not), assign(1, x1, not), true},
		{"the first and the last bit", assign(0, x1), assign(15, x2), true},
		{"the last bit is used", assign(0, x15), reset(15, x2), false},
		{"the same rung", assign(0, x1), assign(0, x1), false},
	}
	for _, c := range cases {
		if impl.RungsIndependent(c.a, c.b) != c.want || impl.RungsIndependent(c.b, c.a) != c.want {
			t.Errorf("%s: independent: %v, exchanged: %v", c.name, impl.RungsIndependent(c.a, c.b), impl.RungsIndependent(c.b, c.a))
		}
	}
}

// Rungs that are invalid for MaxBits bits are not independent of any, also if they are valid for more bits.
func TestInvalidRungsAreNotIndependent(t *testing.T) {
	rungs := invalidRungs()
	rungs["a coil of a seventeenth bit"] = assign(mostBits, x2)
	rungs["an expression with a seventeenth bit"] = set(3, x2, bitNode(mostBits), or)
	rungs["a coil of a large number"] = reset(100, x2)
	for name, invalid := range rungs {
		for _, valid := range []impl.Rung{assign(4, x5), set(4, yes), reset(15, x2)} {
			if impl.RungsIndependent(invalid, valid) || impl.RungsIndependent(valid, invalid) {
				t.Errorf("%s: independent of %v", name, valid)
			}
		}
		for other, x := range rungs {
			if impl.RungsIndependent(invalid, x) {
				t.Errorf("%s, and %s: independent", name, other)
			}
		}
	}
	for _, r := range []impl.Rung{assign(mostBits, x2), set(3, x2, bitNode(mostBits), or)} {
		if !impl.RungValid(r, mostBits+1) {
			t.Errorf("%v is invalid for %d bits", r, mostBits+1)
		}
	}
}

// P1: independence is that of the reference, and symmetric; independent rungs can be exchanged, for every image.
func TestIndependentRungsCanBeExchanged(t *testing.T) {
	for _, bits := range []int{1, 2, 3, 4, 5, 6, 9, mostBits} {
		r := rand.New(rand.NewPCG(1, uint64(bits)))
		rows := allRows(bits)
		independent := 0
		for range 1500 {
			a, b := someRung(r, bits), someRung(r, bits)
			want := wantIndependent(a, b)
			if impl.RungsIndependent(a, b) != want || impl.RungsIndependent(b, a) != want {
				t.Fatalf("%v and %v are independent: %v, exchanged: %v", a, b, impl.RungsIndependent(a, b), impl.RungsIndependent(b, a))
			}
			if !want {
				continue
			}
			independent++
			for _, values := range rows {
				checkExchange(t, impl.Image{Bits: values, Words: []int{4, lowWord}}, a, b)
			}
		}
		if bits > 2 && independent < 100 {
			t.Fatalf("only %d pairs of rungs for %d bits are independent", independent, bits)
		}
	}
}

func checkExchange(t *testing.T, m impl.Image, a impl.Rung, b impl.Rung) {
	t.Helper()
	first := impl.RunRung(impl.RunRung(m, a), b)
	second := impl.RunRung(impl.RunRung(m, b), a)
	if !same(first, second) || !same(first, impl.Image{Bits: afterAll(m.Bits, ladder{a, b}), Words: m.Words}) {
		t.Fatalf("%v becomes %v with %v and then %v, and %v in the other order", m, first, a, b, second)
	}
	if x, y := impl.RunLadder(m, ladder{a, b}), impl.RunLadder(m, ladder{b, a}); !same(x, first) || !same(y, first) {
		t.Fatalf("%v becomes %v as a ladder, and %v in the other order", m, x, y)
	}
}

// P1: for images that are too small for one of the rungs both orders lead to nothing.
func TestExchangeInSmallImages(t *testing.T) {
	a, b := assign(1, x0), set(9, x2)
	if !impl.RungsIndependent(a, b) {
		t.Fatal("not independent")
	}
	for bits := range mostBits + 1 {
		m := impl.Image{Bits: slices.Repeat([]bool{true}, bits)}
		first, second := impl.RunRung(impl.RunRung(m, a), b), impl.RunRung(impl.RunRung(m, b), a)
		if !same(first, second) || empty(first) != (bits < 10) {
			t.Errorf("%d bits: %v and %v", bits, first, second)
		}
	}
}

// forwardLadder returns a ladder whose rungs use only bits without coils and coils of rungs before; no bit has two coils.
func forwardLadder(r *rand.Rand, bits int) ladder {
	order := r.Perm(bits)
	free := r.IntN(bits)
	var list ladder
	for at := free; at < bits && len(list) < mostRungs; at++ {
		logic := expression(r, 1+r.IntN(7), at)
		for k, n := range logic {
			if n.Op == opBit {
				logic[k] = bitNode(order[n.Bit])
			}
		}
		list = append(list, impl.Rung{Logic: logic, Coil: order[at], Kind: kindAssign + r.IntN(3)})
	}
	return list
}

// P124: without feedback a second scan changes nothing.
func TestLaddersWithoutFeedbackSettle(t *testing.T) {
	for bits := 1; bits <= mostBits; bits++ {
		r := rand.New(rand.NewPCG(124, uint64(bits)))
		for range 150 {
			list := forwardLadder(r, bits)
			for _, values := range allRows(bits) {
				m := impl.Image{Bits: values, Words: []int{6}}
				once := impl.RunLadder(m, list)
				twice := impl.RunLadder(once, list)
				if !same(once, twice) || empty(once) || !slices.Equal(once.Bits, afterAll(values, list)) {
					t.Fatalf("%v leads from %v to %v and then to %v", list, m, once, twice)
				}
			}
		}
	}
}

// P124: with feedback a ladder needs more scans, or never settles.
func TestLaddersWithFeedback(t *testing.T) {
	cases := []struct {
		name  string
		list  ladder
		scans [][]bool // the bits before, and after each scan
	}{
		{"its own coil", ladder{assign(0, x0, not)}, [][]bool{{false}, {true}, {false}, {true}}},
		{"a later coil", ladder{assign(1, x2), assign(2, x0)}, [][]bool{{true, false, false}, {true, false, true}, {true, true, true}, {true, true, true}}},
		{"an interlock", ladder{assign(0, x1, not), assign(1, x0, not)}, [][]bool{{true, true}, {false, true}, {false, true}}},
		{"two coils of a bit", ladder{set(0, x1, not), assign(1, x0), reset(0, x1)}, [][]bool{{false, false}, {false, true}, {false, false}, {false, true}}},
	}
	for _, c := range cases {
		m := impl.Image{Bits: c.scans[0]}
		for n, want := range c.scans[1:] {
			m = impl.RunLadder(m, c.list)
			if !slices.Equal(m.Bits, want) {
				t.Fatalf("%s: %v after %d scans", c.name, m, n+1)
			}
		}
	}
}
