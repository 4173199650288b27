package tests

import (
	"math"
	"math/rand/v2"
	"slices"
	"testing"

	"loop.example/plcruntime/impl"
)

// The limits and operations are repeated here as numbers of the document's table, so that a wrong constant is found.
const (
	mostNodes = 24
	mostTable = 6
)

const (
	opBit   = 1
	opNot   = 2
	opAnd   = 3
	opOr    = 4
	opXor   = 5
	opTrue  = 6
	opFalse = 7
)

var (
	x0, x1, x2, x5 = bitNode(0), bitNode(1), bitNode(2), bitNode(5)
	not            = impl.Node{Op: opNot}
	and            = impl.Node{Op: opAnd}
	or             = impl.Node{Op: opOr}
	xor            = impl.Node{Op: opXor}
	yes            = impl.Node{Op: opTrue}
	no             = impl.Node{Op: opFalse}
)

type nodes = []impl.Node

func bitNode(bit int) impl.Node {
	return impl.Node{Op: opBit, Bit: bit}
}

// with returns a list followed by elements, in new memory.
func with(list nodes, more ...impl.Node) nodes {
	return append(slices.Clone(list), more...)
}

// extremes are numbers that are out of every range of this chapter, most of them close to where a shift or a sum goes wrong.
var extremes = []int{math.MinInt, math.MinInt + 1, -65536, -64, -1, 17, 31, 32, 63, 64, 65, 65536, math.MaxInt - 1, math.MaxInt}

// reference reads the subexpression that ends just before a place, backwards from its last element; it returns where it starts and its value; -1 and false if there is none.
func reference(list nodes, end int, bits []bool) (int, bool) {
	if end <= 0 {
		return -1, false
	}
	n := list[end-1]
	if n.Op != opBit && n.Bit != 0 {
		return -1, false
	}
	switch n.Op {
	case opBit:
		if n.Bit < 0 || n.Bit >= len(bits) {
			return -1, false
		}
		return end - 1, bits[n.Bit]
	case opTrue, opFalse:
		return end - 1, n.Op == opTrue
	case opNot:
		start, value := reference(list, end-1, bits)
		return start, start >= 0 && !value
	case opAnd, opOr, opXor:
		middle, right := reference(list, end-1, bits)
		start, left := reference(list, middle, bits)
		if start < 0 {
			return -1, false
		}
		return start, map[int]bool{opAnd: left && right, opOr: left || right, opXor: left != right}[n.Op]
	}
	return -1, false
}

// wantValid is LogicValid by the reference.
func wantValid(list nodes, bits int) bool {
	if len(list) > mostNodes {
		return false
	}
	start, _ := reference(list, len(list), make([]bool, max(bits, 0)))
	return start == 0
}

// row returns count bits whose values are the binary digits of a number.
func row(x int, count int) []bool {
	bits := make([]bool, count)
	for k := range bits {
		bits[k] = x>>k&1 == 1
	}
	return bits
}

// wantTable is LogicTable by the reference.
func wantTable(list nodes, n int) []bool {
	if n < 0 || n > mostTable || !wantValid(list, n) {
		return nil
	}
	table := make([]bool, 1<<n)
	for x := range table {
		_, table[x] = reference(list, len(list), row(x, n))
	}
	return table
}

// wantDepends is LogicDepends by the reference.
func wantDepends(list nodes, n int, bit int) bool {
	table := wantTable(list, n)
	if bit < 0 || bit >= n {
		return false
	}
	for x := range table {
		if table[x] != table[x^1<<bit] {
			return true
		}
	}
	return false
}

// wantUsed is UsedBits by the reference.
func wantUsed(list nodes) []int {
	var used []int
	for k := range mostBits {
		if slices.Contains(list, bitNode(k)) {
			used = append(used, k)
		}
	}
	return used
}

// shortLists are all lists of up to 4 elements with two bits and all operations, valid or not, and the empty list.
func shortLists() []nodes {
	alphabet := nodes{x0, x1, not, and, or, xor, yes, no}
	list := []nodes{nil}
	for first, length := 0, 1; length <= 4; length++ {
		end := len(list)
		for _, shorter := range list[first:end] {
			for _, n := range alphabet {
				list = append(list, with(shorter, n))
			}
		}
		first = end
	}
	return list
}

// expression returns a valid expression with a number of elements for a number of bits; a fixed seed makes it the same in every run.
func expression(r *rand.Rand, size int, bits int) nodes {
	if size == 1 {
		if pick := r.IntN(bits + 2); pick < bits || bits > 0 && r.IntN(3) > 0 {
			return nodes{bitNode(r.IntN(bits))}
		}
		return nodes{{Op: opTrue + r.IntN(2)}}
	}
	if size == 2 || r.IntN(4) == 0 {
		return append(expression(r, size-1, bits), not)
	}
	left := 1 + r.IntN(size-2)
	both := append(expression(r, left, bits), expression(r, size-1-left, bits)...)
	return append(both, impl.Node{Op: opAnd + r.IntN(3)})
}

// expressions are valid expressions of all sizes for a number of bits.
func expressions(bits int) []nodes {
	r := rand.New(rand.NewPCG(2, uint64(bits)))
	var list []nodes
	for size := 1; size <= mostNodes; size++ {
		for range 6 {
			list = append(list, expression(r, size, bits))
		}
	}
	// Conjunctions of all bits have the largest tables with one true row; the longest stack holds all bits at once.
	for bit := range bits {
		list = append(list, nodes{bitNode(bit)}, nodes{bitNode(bit), bitNode(0), xor})
	}
	if bits > 0 && bits <= 12 {
		var all nodes
		for bit := range bits {
			all = append(all, bitNode(bit))
		}
		list = append(list, append(all, slices.Repeat(nodes{and}, bits-1)...))
	}
	return list
}

// invalidLists are lists that are invalid for any number of bits up to MaxBits, for one reason each.
func invalidLists() map[string]nodes {
	return map[string]nodes{
		"nil":                                   nil,
		"no elements":                           {},
		"one value too few for not":             {not},
		"not before its value":                  {not, x0},
		"two values too few":                    {and},
		"one value too few":                     {x0, and},
		"an operation before its values":        {xor, x0, x1},
		"too few values in between":             {x0, or, x1},
		"too few values in between, made up":    {x0, and, x0, x0, xor},
		"too few values at the end":             {x0, x1, and, or},
		"two values left":                       {x0, x1},
		"two values left after an operation":    {x0, x1, x0, and},
		"two values left after not":             {yes, x0, not},
		"one element too many":                  with(nodes{x0}, slices.Repeat(nodes{not}, mostNodes)...),
		"one element too many, with operations": with(nodes{x0}, slices.Repeat(nodes{x1, and}, mostNodes/2)...),
		"many elements":                         with(nodes{x0}, slices.Repeat(nodes{not}, 1000)...),
		"many values":                           slices.Repeat(nodes{x0}, mostNodes),
		"a bit below 0":                         {x0, bitNode(-1), and},
		"a bit past the end":                    {x0, bitNode(mostBits), and},
		"a not with a bit":                      {x0, {Op: opNot, Bit: 1}},
		"a conjunction with a bit":              {x0, x1, {Op: opAnd, Bit: 1}},
		"a disjunction with a bit":              {x0, x1, {Op: opOr, Bit: 1}},
		"an exclusive disjunction with a bit":   {x0, x1, {Op: opXor, Bit: -1}},
		"true with a bit":                       {{Op: opTrue, Bit: 1}},
		"false with a bit":                      {{Op: opFalse, Bit: math.MinInt}},
	}
}

// checkLists calls a function with every short list and with expressions of all sizes, and checks that it leaves the list and its spare capacity unchanged.
func checkLists(t *testing.T, bits int, f func(list nodes)) {
	t.Helper()
	for _, list := range append(shortLists(), expressions(bits)...) {
		arg := with(list, yes, or, x1)
		before := slices.Clone(arg)
		f(arg[:len(list)])
		if !slices.Equal(arg, before) {
			t.Fatalf("%v was changed to %v", before, arg)
		}
	}
}

func TestLogicConstants(t *testing.T) {
	ops := []int{impl.LogicBit, impl.LogicNot, impl.LogicAnd, impl.LogicOr, impl.LogicXor, impl.LogicTrue, impl.LogicFalse}
	if !slices.Equal(ops, []int{1, 2, 3, 4, 5, 6, 7}) || impl.MaxNodes != mostNodes || impl.MaxTable != mostTable {
		t.Fatal(ops, impl.MaxNodes, impl.MaxTable)
	}
}

// P24: expressions have one value.
func TestLogicValid(t *testing.T) {
	for bits := range mostBits + 1 {
		checkLists(t, bits, func(list nodes) {
			for _, b := range []int{bits, bits - 1, bits + 1, 0, 1, 2} {
				if got := impl.LogicValid(list, b); got != wantValid(list, b) {
					t.Fatalf("LogicValid(%v, %d) = %v", list, b, got)
				}
			}
		})
	}
}

func TestInvalidLists(t *testing.T) {
	for name, list := range invalidLists() {
		for bits := -1; bits <= mostBits; bits++ {
			if impl.LogicValid(list, bits) {
				t.Errorf("%s: %v is valid for %d bits", name, list, bits)
			}
		}
	}
}

// An operation that finds too few values is found wherever it is, also if one value is left at the end.
func TestTooFewValues(t *testing.T) {
	for _, list := range expressions(3) {
		for at, n := range list {
			if n.Op != opBit && n.Op != opTrue && n.Op != opFalse {
				continue
			}
			// Without one of its values, an operation finds too few; the value added at the end keeps the count.
			fewer := slices.Delete(slices.Clone(list), at, at+1)
			more := with(fewer, n)
			if impl.LogicValid(fewer, 3) || impl.LogicValid(more, 3) != wantValid(more, 3) {
				t.Fatalf("%v without element %d: %v, %v", list, at, impl.LogicValid(fewer, 3), impl.LogicValid(more, 3))
			}
		}
		if reversed := slices.Clone(list); len(list) > 1 {
			slices.Reverse(reversed)
			if impl.LogicValid(reversed, 3) {
				t.Fatalf("%v is valid", reversed)
			}
		}
	}
}

func TestNumberOfElements(t *testing.T) {
	full := with(nodes{x0}, slices.Repeat(nodes{not}, mostNodes-1)...)
	pairs := with(nodes{x0}, slices.Repeat(nodes{x1, xor}, (mostNodes-1)/2)...)
	deep := with(slices.Repeat(nodes{x0}, mostNodes/2), slices.Repeat(nodes{or}, mostNodes/2-1)...)
	for _, list := range []nodes{full, pairs, with(pairs, not), deep, with(deep, not), {x0}, {yes}, {no}} {
		if !impl.LogicValid(list, 2) {
			t.Errorf("%d elements: %v is invalid", len(list), list)
		}
	}
	for _, list := range []nodes{with(full, not), with(pairs, not, not), with(pairs, x0, and), with(deep, not, not)} {
		if len(list) != mostNodes+1 || impl.LogicValid(list, 2) {
			t.Errorf("%d elements: %v is valid", len(list), list)
		}
	}
}

func TestUnknownOperations(t *testing.T) {
	for _, op := range append([]int{0, 8, 9, -2, -3, 1 << 32, 1<<32 + 1}, extremes...) {
		for _, list := range []nodes{{{Op: op}}, {x0, {Op: op}}, {x0, x1, {Op: op}}, {{Op: op}, x0}, {x0, {Op: op}, not}, {{Op: op}, x0, and}} {
			if impl.LogicValid(list, 4) || impl.EvalLogic(impl.Image{Bits: []bool{true, true, true, true}}, list) {
				t.Errorf("operation %d: %v is valid", op, list)
			}
		}
	}
}

// Bits are numbered from 0 to the number of bits less 1, whatever that number is; constants need no bits.
func TestNumberOfBits(t *testing.T) {
	numbers := append([]int{-2, 0, 1, 2, 5, 6, 7, 15, 16, 99}, extremes...)
	for _, bits := range numbers {
		for _, bit := range append(numbers, bits, bits-1) {
			want := 0 <= bit && bit < bits
			if got := impl.LogicValid(nodes{bitNode(bit)}, bits); got != want {
				t.Errorf("bit %d of %d: %v", bit, bits, got)
			}
			if got := impl.LogicValid(nodes{bitNode(bit), yes, and}, bits); got != want {
				t.Errorf("bit %d of %d, and true: %v", bit, bits, got)
			}
		}
		if !impl.LogicValid(nodes{yes, no, xor}, bits) {
			t.Errorf("constants are invalid for %d bits", bits)
		}
	}
}

// Only LogicBit has the number of a bit: any other operation with one is invalid, also with that of an existing bit.
func TestOtherOperationsWithBits(t *testing.T) {
	lists := map[int]nodes{
		opNot: {yes, not}, opAnd: {yes, yes, and}, opOr: {yes, yes, or}, opXor: {yes, no, xor}, opTrue: {yes}, opFalse: {no, yes, or},
	}
	for op, list := range lists {
		at := slices.Index(list, impl.Node{Op: op})
		for _, bits := range []int{-1, 0, 1, mostBits, math.MaxInt} {
			if !impl.LogicValid(list, bits) {
				t.Errorf("%v is invalid for %d bits", list, bits)
			}
			for _, bit := range append([]int{1, 2, 5, 15, 16}, extremes...) {
				numbered := slices.Clone(list)
				numbered[at].Bit = bit
				if impl.LogicValid(numbered, bits) || impl.EvalLogic(impl.NewImage(mostBits, 0), numbered) {
					t.Errorf("%v is valid for %d bits", numbered, bits)
				}
			}
		}
	}
}

// P24: valid expressions with more bits and with an element appended.
func TestValidWithMore(t *testing.T) {
	for bits := range mostBits + 1 {
		checkLists(t, bits, func(list nodes) {
			if !impl.LogicValid(list, bits) {
				return
			}
			for _, more := range []int{bits + 1, bits + 2, mostBits, 1000, math.MaxInt} {
				if more >= bits && !impl.LogicValid(list, more) {
					t.Fatalf("%v is not valid for %d bits", list, more)
				}
			}
			for _, n := range []impl.Node{and, or, xor} {
				if impl.LogicValid(with(list, n), bits) {
					t.Fatalf("%v followed by %v is valid", list, n)
				}
			}
			if impl.LogicValid(with(list, not), bits) != (len(list) < mostNodes) {
				t.Fatalf("%d elements followed by not", len(list))
			}
		})
	}
}

// P25: every operation computes its function.
func TestEvalLogicOfOperations(t *testing.T) {
	for _, a := range []bool{false, true} {
		for _, b := range []bool{false, true} {
			m := impl.Image{Bits: []bool{a, b}, Words: []int{5}}
			values := map[string][2]bool{
				"bit 0": {impl.EvalLogic(m, nodes{x0}), a},
				"bit 1": {impl.EvalLogic(m, nodes{x1}), b},
				"not":   {impl.EvalLogic(m, nodes{x1, not}), !b},
				"and":   {impl.EvalLogic(m, nodes{x0, x1, and}), a && b},
				"or":    {impl.EvalLogic(m, nodes{x0, x1, or}), a || b},
				"xor":   {impl.EvalLogic(m, nodes{x0, x1, xor}), a != b},
				"true":  {impl.EvalLogic(m, nodes{yes}), true},
				"false": {impl.EvalLogic(m, nodes{no}), false},
				// The last value is negated, and the two last ones are combined, not the first ones.
				"last not": {impl.EvalLogic(m, nodes{x0, x1, not, and}), a && !b},
				"last two": {impl.EvalLogic(m, nodes{no, x0, x1, or, and}), false},
			}
			for name, v := range values {
				if v[0] != v[1] {
					t.Errorf("%s of %v and %v is %v", name, a, b, v[0])
				}
			}
		}
	}
}

// P25: the value is that of the reference, for images of all sizes.
func TestEvalLogic(t *testing.T) {
	for bits := range mostBits + 1 {
		rows := patterns(bits)
		checkLists(t, bits, func(list nodes) {
			for x, values := range rows {
				m := impl.Image{Bits: slices.Clone(values), Words: []int{x, lowWord}}
				_, want := reference(list, len(list), values)
				want = want && wantValid(list, bits)
				if got := impl.EvalLogic(m, list); got != want {
					t.Fatalf("EvalLogic(%v, %v) = %v", m, list, got)
				}
				if !slices.Equal(m.Bits, values) || !slices.Equal(m.Words, []int{x, lowWord}) {
					t.Fatalf("the image was changed to %v", m)
				}
			}
		})
	}
}

// P25: the value is the entry of the truth table, and of an expression and its negation exactly one is true.
func TestEvalLogicAndTable(t *testing.T) {
	for bits := range mostTable + 1 {
		for _, list := range expressions(bits) {
			table := impl.LogicTable(list, bits)
			negated := impl.NegateLogic(list)
			for x := range 1 << bits {
				m := impl.Image{Bits: row(x, bits)}
				if impl.EvalLogic(m, list) != table[x] {
					t.Fatalf("row %d of %v is %v", x, list, table[x])
				}
				if negated != nil && impl.EvalLogic(m, negated) == table[x] {
					t.Fatalf("row %d: %v and %v are both %v", x, list, negated, table[x])
				}
			}
		}
	}
}

func TestEvalLogicOfInvalidArguments(t *testing.T) {
	// True constants and a true bit: the value would be true if the arguments were taken.
	for name, m := range invalidImages() {
		if len(m.Bits) > 0 {
			m = copied(m)
			m.Bits[0] = true
			if impl.EvalLogic(m, nodes{x0}) {
				t.Errorf("%s: bit 0 is true", name)
			}
		}
		if impl.EvalLogic(m, nodes{yes}) || impl.EvalLogic(m, nodes{no, not}) {
			t.Errorf("%s: the constant is true", name)
		}
	}
	for count := range mostBits + 1 {
		m := impl.Image{Bits: slices.Repeat([]bool{true}, count)}
		for name, list := range invalidLists() {
			if impl.EvalLogic(m, list) {
				t.Errorf("%s: the value for %d bits is true", name, count)
			}
		}
		for _, bit := range indices(count) {
			want := bit >= 0 && bit < count
			if impl.EvalLogic(m, nodes{bitNode(bit)}) != want || impl.EvalLogic(m, nodes{yes, bitNode(bit), or}) != want {
				t.Errorf("bit %d of %d is not %v", bit, count, want)
			}
		}
	}
	// Memory past the end of the image's bits is not a bit.
	if impl.EvalLogic(roomy(impl.Image{Bits: []bool{true}}), nodes{x1}) {
		t.Error("spare capacity is read")
	}
}

// P26: the tables of some expressions, written out.
func TestLogicTableRows(t *testing.T) {
	const f, w = false, true
	cases := []struct {
		list nodes
		n    int
		want []bool
	}{
		{nodes{yes}, 0, []bool{w}},
		{nodes{no}, 0, []bool{f}},
		{nodes{x0}, 1, []bool{f, w}},
		{nodes{x0, not}, 1, []bool{w, f}},
		{nodes{x0}, 2, []bool{f, w, f, w}},
		{nodes{x1}, 2, []bool{f, f, w, w}},
		{nodes{x0, x1, and}, 2, []bool{f, f, f, w}},
		{nodes{x0, x1, or}, 2, []bool{f, w, w, w}},
		{nodes{x0, x1, xor}, 2, []bool{f, w, w, f}},
		{nodes{x0, x1, not, and}, 2, []bool{f, w, f, f}},
		{nodes{x2, x0, and}, 3, []bool{f, f, f, f, f, w, f, w}},
		{nodes{yes}, 3, []bool{w, w, w, w, w, w, w, w}},
	}
	for _, c := range cases {
		if got := impl.LogicTable(c.list, c.n); !slices.Equal(got, c.want) {
			t.Errorf("LogicTable(%v, %d) = %v", c.list, c.n, got)
		}
	}
}

func TestLogicTable(t *testing.T) {
	for bits := range mostTable + 2 {
		checkLists(t, bits, func(list nodes) {
			for n := -1; n <= mostTable+1; n++ {
				if got := impl.LogicTable(list, n); !slices.Equal(got, wantTable(list, n)) {
					t.Fatalf("LogicTable(%v, %d) = %v", list, n, got)
				}
			}
		})
	}
}

// P26: there are 2^n entries, and the table for one more bit is the table twice.
func TestTableForOneMoreBit(t *testing.T) {
	for bits := range mostTable {
		for _, list := range expressions(bits) {
			table := impl.LogicTable(list, bits)
			if len(table) != 1<<bits {
				t.Fatalf("%d rows for %d bits", len(table), bits)
			}
			if more := impl.LogicTable(list, bits+1); !slices.Equal(more, slices.Concat(table, table)) {
				t.Fatalf("the table of %v is %v for %d bits, and %v for one more", list, table, bits, more)
			}
		}
	}
}

// Numbers of bits out of 0..MaxTable, and lists that are not valid for them, have no tables.
func TestNoTable(t *testing.T) {
	for _, n := range append([]int{-2, mostTable + 1, mostTable + 2, mostBits}, extremes...) {
		for _, list := range []nodes{{yes}, {no, not}, {x0}, {x0, x1, or}} {
			if len(impl.LogicTable(list, n)) != 0 || impl.LogicEquivalent(list, list, n) || impl.LogicDepends(list, n, 0) {
				t.Errorf("%v has a table for %d bits", list, n)
			}
		}
	}
	for n := range mostTable + 1 {
		lists := invalidLists()
		lists["a bit past the end of the table"] = nodes{bitNode(n)}
		lists["a bit past the end of the table, with others"] = nodes{x0, bitNode(n), x0, and, or}
		for name, list := range lists {
			if len(impl.LogicTable(list, n)) != 0 || impl.LogicEquivalent(list, list, n) || impl.LogicDepends(list, n, 0) {
				t.Errorf("%s: there is a table for %d bits", name, n)
			}
			for _, other := range []nodes{{yes}, {no}} {
				if impl.LogicEquivalent(list, other, n) || impl.LogicEquivalent(other, list, n) {
					t.Errorf("%s: equivalent to %v for %d bits", name, other, n)
				}
			}
		}
	}
}

// P27: equivalence is having the same table, and so an equivalence relation.
func TestLogicEquivalent(t *testing.T) {
	for n := range mostTable + 1 {
		list := append(expressions(n), expressions(min(n, 2))[:60]...)
		tables := make([][]bool, len(list))
		for k := range list {
			tables[k] = wantTable(list[k], n)
		}
		for k, a := range list {
			if !impl.LogicEquivalent(a, a, n) {
				t.Fatalf("%v is not equivalent to itself", a)
			}
			for j, b := range list {
				want := slices.Equal(tables[k], tables[j])
				if impl.LogicEquivalent(a, b, n) != want || impl.LogicEquivalent(b, a, n) != want {
					t.Fatalf("%v and %v are equivalent for %d bits: %v", a, b, n, !want)
				}
			}
		}
	}
}

// Tables that differ in a single row, the first or the last one among them, are different.
func TestEquivalenceOfSingleRows(t *testing.T) {
	for n := 1; n <= mostTable; n++ {
		for x := range 1 << n {
			// One literal a bit: true in row x only. At most 6 negations and 5 conjunctions fit.
			var one nodes
			for k, value := range row(x, n) {
				one = append(one, bitNode(k))
				if !value {
					one = append(one, not)
				}
				if k > 0 {
					one = append(one, and)
				}
			}
			if impl.LogicEquivalent(one, nodes{no}, n) || impl.LogicEquivalent(nodes{no}, one, n) || !impl.LogicEquivalent(one, with(one, not, not), n) {
				t.Fatalf("row %d of %d bits: %v", x, n, one)
			}
			for k := range n {
				if !impl.LogicDepends(one, n, k) {
					t.Fatalf("row %d of %d bits does not depend on bit %d", x, n, k)
				}
			}
		}
	}
}

// P27: double negation changes nothing; an expression is never equivalent to its negation.
func TestEquivalenceOfNegations(t *testing.T) {
	for n := range mostTable + 1 {
		for _, list := range expressions(n) {
			if twice := with(list, not, not); len(twice) <= mostNodes && (!impl.LogicEquivalent(list, twice, n) || !impl.LogicEquivalent(twice, list, n)) {
				t.Fatalf("%v is not equivalent to its double negation", list)
			}
			negated := impl.NegateLogic(list)
			if negated == nil {
				continue
			}
			if impl.LogicEquivalent(list, negated, n) || impl.LogicEquivalent(negated, list, n) {
				t.Fatalf("%v is equivalent to its negation", list)
			}
			if back := impl.NegateLogic(negated); !impl.LogicEquivalent(list, back, n) {
				t.Fatalf("%v is not equivalent to %v, negated twice", list, back)
			}
		}
	}
}

// The same text of elements may be valid in one expression and past the end in the other.
func TestEquivalenceOfOneInvalidExpression(t *testing.T) {
	constant := nodes{x5, x5, xor} // false in every row, but only where bit 5 exists
	for n := range mostTable {
		if impl.LogicEquivalent(constant, nodes{no}, n) || impl.LogicEquivalent(nodes{no}, constant, n) {
			t.Errorf("bit 5 exists with %d bits", n)
		}
	}
	if !impl.LogicEquivalent(constant, nodes{no}, mostTable) || !impl.LogicEquivalent(nodes{no}, constant, mostTable) {
		t.Error("bit 5 does not exist with 6 bits")
	}
}

// P28: negating appends LogicNot, or removes the last one.
func TestNegateLogic(t *testing.T) {
	for bits := range mostBits + 2 {
		checkLists(t, bits, func(list nodes) {
			var want nodes
			if wantValid(list, mostBits) && list[len(list)-1].Op == opNot {
				want = list[:len(list)-1]
			} else if wantValid(list, mostBits) && len(list) < mostNodes {
				want = with(list, not)
			}
			if got := impl.NegateLogic(list); !slices.Equal(got, want) {
				t.Fatalf("NegateLogic(%v) = %v", list, got)
			}
		})
	}
}

func TestNegateLogicEdges(t *testing.T) {
	full := with(nodes{x0}, slices.Repeat(nodes{not}, mostNodes-1)...)
	fewer := with(nodes{x0}, slices.Repeat(nodes{x1, xor}, (mostNodes-2)/2)...)
	most := with(nodes{x0, not}, slices.Repeat(nodes{x1, xor}, (mostNodes-2)/2)...)
	cases := []struct {
		name       string
		list, want nodes
	}{
		{"a bit", nodes{x0}, nodes{x0, not}},
		{"a constant", nodes{yes}, nodes{yes, not}},
		{"a negated bit", nodes{x0, not}, nodes{x0}},
		{"a bit negated twice", nodes{x0, not, not}, nodes{x0, not}},
		{"a negation that is not last", nodes{x0, x1, not, and}, nodes{x0, x1, not, and, not}},
		{"the last bit", nodes{bitNode(mostBits - 1)}, nodes{bitNode(mostBits - 1), not}},
		{"one element less than most", full[:mostNodes-1], full[:mostNodes-2]},
		{"most elements, with not at the end", full, full[:mostNodes-1]},
		{"most elements, without not at the end", most, nil},
		{"one element less, without not at the end", fewer, with(fewer, not)},
		{"no such bit", nodes{bitNode(mostBits)}, nil},
		{"no such bit, negated", nodes{bitNode(mostBits), not}, nil},
		{"a negation with a bit", nodes{x0, {Op: opNot, Bit: 1}}, nil},
		{"only a negation", nodes{not}, nil},
	}
	for _, c := range cases {
		if got := impl.NegateLogic(c.list); !slices.Equal(got, c.want) {
			t.Errorf("%s: NegateLogic(%v) = %v", c.name, c.list, got)
		}
	}
	for name, list := range invalidLists() {
		if got := impl.NegateLogic(list); len(got) != 0 {
			t.Errorf("%s: NegateLogic(%v) = %v", name, list, got)
		}
	}
}

// P28: the negated expression is valid and opposite in every row; negating twice returns the expression, if it does not end with LogicNot twice.
func TestNegatingNegates(t *testing.T) {
	for n := range mostTable + 1 {
		for _, list := range expressions(n) {
			negated := impl.NegateLogic(list)
			if negated == nil {
				if len(list) < mostNodes || list[len(list)-1] == not {
					t.Fatalf("%v has no negation", list)
				}
				continue
			}
			if !impl.LogicValid(negated, n) {
				t.Fatalf("the negation %v of %v is invalid", negated, list)
			}
			table, opposite := impl.LogicTable(list, n), impl.LogicTable(negated, n)
			for x := range table {
				if table[x] == opposite[x] {
					t.Fatalf("row %d of %v and %v is the same", x, list, negated)
				}
			}
			last := list[max(0, len(list)-2):]
			if back := impl.NegateLogic(negated); !slices.Equal(last, nodes{not, not}) && !slices.Equal(back, list) {
				t.Fatalf("%v negated twice is %v", list, back)
			}
		}
	}
}

func TestNegateLogicHasOwnMemory(t *testing.T) {
	for _, list := range expressions(4) {
		arg := with(list, x1, x2)
		before := slices.Clone(arg)
		first := impl.NegateLogic(arg[:len(list)])
		kept := slices.Clone(first)
		all := first[:cap(first)]
		for k := range all {
			all[k] = impl.Node{Op: 77, Bit: 88}
		}
		if !slices.Equal(arg, before) {
			t.Fatalf("the negation of %v shares memory with it", before)
		}
		if !slices.Equal(impl.NegateLogic(arg[:len(list)]), kept) {
			t.Fatalf("a negation of %v depends on an earlier one", before)
		}
	}
}

// P29: the numbers are ascending, each once, and those that occur.
func TestUsedBits(t *testing.T) {
	for bits := range mostBits + 3 {
		checkLists(t, bits, func(list nodes) {
			if got := impl.UsedBits(list); !slices.Equal(got, wantUsed(list)) {
				t.Fatalf("UsedBits(%v) = %v", list, got)
			}
		})
	}
}

// Any list has used bits: its validity and its length do not matter.
func TestUsedBitsOfAnyList(t *testing.T) {
	cases := []struct {
		list nodes
		want []int
	}{
		{nil, nil},
		{nodes{yes, not, and}, nil},
		{nodes{x2, x0, x2, x1, x0}, []int{0, 1, 2}},
		{nodes{bitNode(15), bitNode(16), bitNode(-1), bitNode(0), bitNode(17)}, []int{0, 15}},
		{nodes{{Op: opNot, Bit: 3}, {Op: opAnd, Bit: 4}, {Op: opOr, Bit: 5}, {Op: opXor, Bit: 6}, {Op: opTrue, Bit: 7}, {Op: opFalse, Bit: 8}}, nil},
		{nodes{{Op: 0, Bit: 1}, {Op: 8, Bit: 2}, {Op: -1, Bit: 3}, {Op: math.MaxInt, Bit: 4}, bitNode(9)}, []int{9}},
	}
	for _, c := range cases {
		if got := impl.UsedBits(c.list); !slices.Equal(got, c.want) {
			t.Errorf("UsedBits(%v) = %v", c.list, got)
		}
	}
	for _, bit := range extremes {
		if got := impl.UsedBits(nodes{bitNode(bit), x1}); !slices.Equal(got, []int{1}) {
			t.Errorf("UsedBits of bit %d and bit 1 = %v", bit, got)
		}
	}
	var long nodes
	for k := range 1000 {
		long = append(long, bitNode(999-k))
	}
	if got := impl.UsedBits(long); !slices.Equal(got, []int{0, 1, 2, 3, 4, 5, 6, 7, 8, 9, 10, 11, 12, 13, 14, 15}) {
		t.Errorf("UsedBits of 1000 bits = %v", got)
	}
}

// checkLists compares the list; the image and the second list are compared here.
func TestLogicChangesNoArgument(t *testing.T) {
	m := roomy(impl.Image{Bits: []bool{true, false, true}, Words: []int{7, topWord}})
	before := copied(whole(m))
	checkLists(t, 3, func(list nodes) {
		impl.LogicValid(list, 3)
		impl.EvalLogic(m, list)
		impl.LogicTable(list, 3)
		impl.LogicDepends(list, 3, 1)
		impl.NegateLogic(list)
		impl.UsedBits(list)
		impl.LogicEquivalent(list, nodes{x0, x1, or}, 3)
		impl.LogicEquivalent(nodes{x0, x1, or}, list, 3)
		if !same(whole(m), before) {
			t.Fatalf("%v was changed to %v", before, whole(m))
		}
	})
}

func TestResultsShareNoMemory(t *testing.T) {
	list := nodes{x1, x0, or}
	used, table := impl.UsedBits(list), impl.LogicTable(list, 2)
	used[0], table[0] = 99, true
	if !slices.Equal(impl.UsedBits(list), []int{0, 1}) || !slices.Equal(impl.LogicTable(list, 2), []bool{false, true, true, true}) {
		t.Fatal("results share memory")
	}
}

// P29: an expression does not depend on bits that do not occur in it.
func TestOtherBitsDoNotMatter(t *testing.T) {
	for bits := range mostTable + 1 {
		for _, list := range expressions(bits) {
			used := impl.UsedBits(list)
			for n := bits; n <= mostTable; n++ {
				for bit := range n {
					if impl.LogicDepends(list, n, bit) && !slices.Contains(used, bit) {
						t.Fatalf("%v depends on bit %d", list, bit)
					}
				}
			}
		}
	}
}

// P30: dependence is that of the table, not of the text.
func TestLogicDepends(t *testing.T) {
	for bits := range mostTable + 2 {
		checkLists(t, bits, func(list nodes) {
			for n := -1; n <= mostTable+1; n++ {
				for bit := -1; bit <= mostTable+1; bit++ {
					if got := impl.LogicDepends(list, n, bit); got != wantDepends(list, n, bit) {
						t.Fatalf("LogicDepends(%v, %d, %d) = %v", list, n, bit, got)
					}
				}
			}
		})
	}
}

func TestLogicDependsOnMeaning(t *testing.T) {
	for bit := range mostTable {
		x := bitNode(bit)
		other := bitNode((bit + 1) % mostTable)
		for _, list := range []nodes{{x}, {x, not}, {x, other, and}, {other, x, or}, {other, x, xor}, {x, yes, and}} {
			if !impl.LogicDepends(list, mostTable, bit) {
				t.Errorf("%v does not depend on bit %d", list, bit)
			}
		}
		for _, list := range []nodes{{x, x, xor}, {x, x, not, or}, {x, no, and}, {x, yes, or}, {other, x, other, and, or}, {other}} {
			if impl.LogicDepends(list, mostTable, bit) {
				t.Errorf("%v depends on bit %d", list, bit)
			}
		}
	}
}

func TestDependenceOnMissingBits(t *testing.T) {
	for n := range mostTable + 1 {
		for _, list := range expressions(n) {
			for _, bit := range append([]int{-2, n, n + 1, mostTable, mostTable + 1, mostBits}, extremes...) {
				if (bit < 0 || bit >= n) && impl.LogicDepends(list, n, bit) {
					t.Fatalf("%v depends on bit %d of %d", list, bit, n)
				}
			}
		}
	}
}

// replaced returns a list with a constant in place of every use of a bit.
func replaced(list nodes, bit int, constant impl.Node) nodes {
	result := slices.Clone(list)
	for k, n := range result {
		if n == bitNode(bit) {
			result[k] = constant
		}
	}
	return result
}

// P30: fixing a bit changes nothing exactly if the expression does not depend on it; an expression and its negation depend on the same bits.
func TestFixedBits(t *testing.T) {
	for n := range mostTable + 1 {
		for _, list := range expressions(n) {
			negated := impl.NegateLogic(list)
			for bit := range n {
				depends := impl.LogicDepends(list, n, bit)
				for _, constant := range []impl.Node{yes, no} {
					if impl.LogicEquivalent(list, replaced(list, bit, constant), n) == depends {
						t.Fatalf("%v depends on bit %d: %v, with the bit fixed to %v", list, bit, depends, constant)
					}
				}
				if negated != nil && impl.LogicDepends(negated, n, bit) != depends {
					t.Fatalf("%v and %v do not depend on the same bits", list, negated)
				}
			}
		}
	}
}
