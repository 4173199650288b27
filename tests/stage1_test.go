package tests

import (
	"fmt"
	"math"
	"slices"
	"testing"

	"loop.example/plcruntime/impl"
)

// The limits are repeated here as numbers of the document's table, so that a wrong constant is found.
const (
	mostBits  = 16
	mostWords = 8
	topWord   = 32767
	lowWord   = -32768
)

// images is a set of valid images of many sizes, with all numbers of bits and words, and words at the limits.
func images() []impl.Image {
	var list []impl.Image
	values := []int{0, 1, -1, topWord, lowWord, 12345, -12345, 77}
	for bits := range mostBits + 1 {
		for words := range mostWords + 1 {
			m := impl.Image{Bits: make([]bool, bits), Words: make([]int, words)}
			for n := range bits {
				m.Bits[n] = (n*n+words)%3 == 0
			}
			for n := range words {
				m.Words[n] = values[(n+bits)%len(values)]
			}
			list = append(list, m)
		}
	}
	return list
}

// invalidImages is a set of images that are invalid for one reason each.
func invalidImages() map[string]impl.Image {
	return map[string]impl.Image{
		"one bit too many":           {Bits: make([]bool, mostBits+1), Words: make([]int, 2)},
		"many bits":                  {Bits: make([]bool, 1000)},
		"one word too many":          {Bits: make([]bool, 3), Words: make([]int, mostWords+1)},
		"many words":                 {Words: make([]int, 1000)},
		"a word above the range":     {Bits: make([]bool, 3), Words: []int{0, topWord + 1}},
		"a word below the range":     {Bits: make([]bool, 3), Words: []int{lowWord - 1, 0}},
		"the last word out of range": {Words: []int{0, 0, 0, 0, 0, 0, 0, 40000}},
		"the largest int":            {Words: []int{math.MaxInt}},
		"the smallest int":           {Words: []int{math.MinInt}},
		"both lists too long":        {Bits: make([]bool, mostBits+1), Words: make([]int, mostWords+1)},
	}
}

// indices are numbers of bits or words within and outside an image with count of them.
func indices(count int) []int {
	list := []int{math.MinInt, -65536, -17, -16, -1, count, count + 1, 15, 16, 17, 31, 32, 63, 64, 65, 65536, math.MaxInt}
	for n := range count {
		list = append(list, n)
	}
	return list
}

func same(a impl.Image, b impl.Image) bool {
	return slices.Equal(a.Bits, b.Bits) && slices.Equal(a.Words, b.Words)
}

func copied(m impl.Image) impl.Image {
	return impl.Image{Bits: slices.Clone(m.Bits), Words: slices.Clone(m.Words)}
}

func empty(m impl.Image) bool {
	return len(m.Bits) == 0 && len(m.Words) == 0
}

// roomy returns an equal image whose lists have spare capacity that is filled with recognizable values.
func roomy(m impl.Image) impl.Image {
	bits := make([]bool, 0, len(m.Bits)+4)
	words := make([]int, 0, len(m.Words)+4)
	bits = append(append(bits, m.Bits...), true, false, true, false)[:len(m.Bits)]
	words = append(append(words, m.Words...), 71, 72, 73, 74)[:len(m.Words)]
	return impl.Image{Bits: bits, Words: words}
}

// whole is an image with the spare capacity of its lists.
func whole(m impl.Image) impl.Image {
	return impl.Image{Bits: m.Bits[:cap(m.Bits)], Words: m.Words[:cap(m.Words)]}
}

// overwrite changes all memory of a result, spare capacity included.
func overwrite(m impl.Image) {
	all := whole(m)
	for n := range all.Bits {
		all.Bits[n] = !all.Bits[n]
	}
	for n := range all.Words {
		all.Words[n] += 1000
	}
}

// checkOwnMemory checks that a function leaves its argument unchanged and shares no memory with it.
func checkOwnMemory(t *testing.T, name string, m impl.Image, f func(impl.Image) impl.Image) {
	t.Helper()
	arg := roomy(m)
	before := copied(whole(arg))
	result := f(arg)
	if !same(whole(arg), before) {
		t.Fatalf("%s: the argument %v was changed to %v", name, before, whole(arg))
	}
	kept := copied(result)
	overwrite(result)
	if !same(whole(arg), before) {
		t.Fatalf("%s: the result shares memory with the argument %v", name, before)
	}
	if !same(kept, f(arg)) {
		t.Fatalf("%s: a result for %v depends on an earlier one", name, before)
	}
}

func TestLimits(t *testing.T) {
	if impl.MaxBits != mostBits || impl.MaxWords != mostWords || impl.WordTop != topWord || impl.WordLow != lowWord {
		t.Fatal(impl.MaxBits, impl.MaxWords, impl.WordTop, impl.WordLow)
	}
}

// P17: images are bounded.
func TestValidImages(t *testing.T) {
	for _, m := range images() {
		before := copied(m)
		if !impl.ImageValid(m) {
			t.Errorf("%v is invalid", m)
		}
		if !same(m, before) {
			t.Errorf("%v was changed to %v", before, m)
		}
	}
	for _, m := range []impl.Image{{}, {Bits: []bool{}, Words: []int{}}, {Bits: make([]bool, mostBits), Words: []int{topWord, lowWord, 0, 0, 0, 0, 0, lowWord}}} {
		if !impl.ImageValid(m) {
			t.Errorf("%v is invalid", m)
		}
	}
}

func TestInvalidImages(t *testing.T) {
	for name, m := range invalidImages() {
		if impl.ImageValid(m) {
			t.Errorf("%s: %v is valid", name, m)
		}
	}
}

// A single word out of range makes an image invalid, wherever it is.
func TestWordOutOfRangeIsInvalid(t *testing.T) {
	for _, m := range images() {
		for n := range m.Words {
			for _, value := range []int{topWord + 1, lowWord - 1, 65535, -65536, math.MaxInt, math.MinInt} {
				x := copied(m)
				x.Words[n] = value
				if impl.ImageValid(x) {
					t.Fatalf("%v is valid", x)
				}
			}
		}
	}
}

// P18: new images are empty.
func TestNewImage(t *testing.T) {
	for bits := range mostBits + 1 {
		for words := range mostWords + 1 {
			m := impl.NewImage(bits, words)
			if len(m.Bits) != bits || len(m.Words) != words || !impl.ImageValid(m) {
				t.Fatalf("NewImage(%d, %d) = %v", bits, words, m)
			}
			if slices.Contains(m.Bits, true) || slices.ContainsFunc(m.Words, func(x int) bool { return x != 0 }) {
				t.Fatalf("NewImage(%d, %d) = %v", bits, words, m)
			}
		}
	}
}

func TestNewImageOutOfRange(t *testing.T) {
	pairs := [][2]int{
		{mostBits + 1, 0}, {mostBits + 1, 3}, {0, mostWords + 1}, {3, mostWords + 1}, {mostBits + 1, mostWords + 1},
		{-1, 0}, {-1, 3}, {0, -1}, {3, -1}, {-1, -1}, {-1, mostWords + 1}, {mostBits + 1, -1},
		{math.MaxInt, 1}, {1, math.MaxInt}, {math.MinInt, 1}, {1, math.MinInt},
	}
	for _, p := range pairs {
		if m := impl.NewImage(p[0], p[1]); !empty(m) {
			t.Errorf("NewImage(%d, %d) = %v", p[0], p[1], m)
		}
	}
}

func TestNewImagesShareNoMemory(t *testing.T) {
	a, b := impl.NewImage(5, 3), impl.NewImage(5, 3)
	overwrite(a)
	if slices.Contains(b.Bits, true) || b.Words[0] != 0 || slices.Contains(impl.NewImage(5, 3).Bits, true) {
		t.Fatal("new images share memory")
	}
}

// P19: bits that do not exist are false.
func TestGetBit(t *testing.T) {
	for _, m := range images() {
		before := copied(m)
		for _, n := range indices(len(m.Bits)) {
			want := n >= 0 && n < len(m.Bits) && m.Bits[n]
			if got := impl.GetBit(m, n); got != want {
				t.Fatalf("GetBit(%v, %d) = %v", m, n, got)
			}
		}
		if !same(m, before) {
			t.Fatalf("%v was changed to %v", before, m)
		}
	}
}

// GetBit is defined for any image: an invalid one has the bits of its list too.
func TestGetBitOfInvalidImage(t *testing.T) {
	m := impl.Image{Bits: make([]bool, 300), Words: []int{40000}}
	for n := range m.Bits {
		m.Bits[n] = n%7 == 2
	}
	for _, n := range append(indices(300), 16, 23, 64, 299, 300, 301) {
		want := n >= 0 && n < 300 && n%7 == 2
		if got := impl.GetBit(m, n); got != want {
			t.Fatalf("GetBit(300 bits, %d) = %v", n, got)
		}
	}
	if !impl.GetBit(impl.Image{Bits: []bool{true}, Words: []int{topWord + 1}}, 0) {
		t.Fatal("the bit of an image with a word out of range is not read")
	}
}

// Memory past the end of a list is not a bit and not a word.
func TestSpareCapacityIsNotRead(t *testing.T) {
	m := roomy(impl.Image{Bits: []bool{false}, Words: []int{1}})
	if impl.GetBit(m, 1) || impl.GetBit(m, 3) || impl.GetWord(m, 1) != 0 {
		t.Fatal("spare capacity is read")
	}
}

// P20: a written bit is read, and nothing else changes.
func TestSetBit(t *testing.T) {
	for _, m := range images() {
		for _, n := range indices(len(m.Bits)) {
			for _, value := range []bool{false, true} {
				want := copied(m)
				exists := n >= 0 && n < len(m.Bits)
				if exists {
					want.Bits[n] = value
				}
				got := impl.SetBit(m, n, value)
				if !same(got, want) || !impl.ImageValid(got) {
					t.Fatalf("SetBit(%v, %d, %v) = %v", m, n, value, got)
				}
				if impl.GetBit(got, n) != (exists && value) {
					t.Fatalf("bit %d of %v is not %v", n, got, value)
				}
			}
		}
	}
}

// P22: a written word is read, within the range, and nothing else changes.
func TestSetWord(t *testing.T) {
	moved := map[int]int{
		0: 0, 1: 1, -1: -1, 255: 255, 256: 256, -4711: -4711,
		topWord - 1: topWord - 1, topWord: topWord, topWord + 1: topWord, 40000: topWord, 65536: topWord, math.MaxInt: topWord,
		lowWord + 1: lowWord + 1, lowWord: lowWord, lowWord - 1: lowWord, -40000: lowWord, -65536: lowWord, math.MinInt: lowWord,
	}
	for _, m := range images() {
		for _, n := range indices(len(m.Words)) {
			for value, word := range moved {
				want := copied(m)
				exists := n >= 0 && n < len(m.Words)
				if exists {
					want.Words[n] = word
				}
				got := impl.SetWord(m, n, value)
				if !same(got, want) || !impl.ImageValid(got) {
					t.Fatalf("SetWord(%v, %d, %d) = %v", m, n, value, got)
				}
				if exists && impl.GetWord(got, n) != word || !exists && impl.GetWord(got, n) != 0 {
					t.Fatalf("word %d of %v is not %d", n, got, word)
				}
			}
		}
	}
}

// P20 and P22: an invalid image gives the zero value, whether the bit or the word exists or not.
func TestSetInInvalidImage(t *testing.T) {
	for name, m := range invalidImages() {
		for _, n := range indices(max(len(m.Bits), len(m.Words))) {
			if x := impl.SetBit(m, n, true); !empty(x) {
				t.Errorf("%s: SetBit(%d) = %v", name, n, x)
			}
			// Writing a word of the range to the place of the one out of range does not make the image valid.
			if x := impl.SetWord(m, n, 1); !empty(x) {
				t.Errorf("%s: SetWord(%d) = %v", name, n, x)
			}
		}
	}
}

// P21: words that do not exist are 0.
func TestGetWord(t *testing.T) {
	for _, m := range images() {
		before := copied(m)
		for _, n := range indices(len(m.Words)) {
			want := 0
			if n >= 0 && n < len(m.Words) {
				want = m.Words[n]
			}
			if got := impl.GetWord(m, n); got != want {
				t.Fatalf("GetWord(%v, %d) = %d", m, n, got)
			}
		}
		if !same(m, before) {
			t.Fatalf("%v was changed to %v", before, m)
		}
	}
}

// GetWord is defined for any image: a word out of range is returned as it is, and so is one past MaxWords.
func TestGetWordOfInvalidImage(t *testing.T) {
	m := impl.Image{Bits: make([]bool, 40), Words: []int{1, 40000, math.MinInt, math.MaxInt, 5, 6, 7, 8, 9, 10}}
	for n, want := range m.Words {
		if got := impl.GetWord(m, n); got != want {
			t.Errorf("GetWord(%v, %d) = %d", m, n, got)
		}
	}
	if impl.GetWord(m, 10) != 0 || impl.GetWord(m, -1) != 0 {
		t.Error("a word that does not exist is not 0")
	}
}

// P20 and P22: the argument is not changed and the result has memory of its own.
func TestSetHasOwnMemory(t *testing.T) {
	for _, m := range images() {
		for _, n := range []int{-1, 0, 1, len(m.Bits) - 1, len(m.Bits), mostBits, 1000} {
			for _, value := range []bool{false, true} {
				name := fmt.Sprintf("SetBit(%d, %v)", n, value)
				checkOwnMemory(t, name, m, func(m impl.Image) impl.Image { return impl.SetBit(m, n, value) })
			}
		}
		for _, n := range []int{-1, 0, 1, len(m.Words) - 1, len(m.Words), mostWords, 1000} {
			name := fmt.Sprintf("SetWord(%d)", n)
			checkOwnMemory(t, name, m, func(m impl.Image) impl.Image { return impl.SetWord(m, n, 99) })
		}
	}
	for name, m := range invalidImages() {
		checkOwnMemory(t, name, m, func(m impl.Image) impl.Image { return impl.SetBit(m, 0, true) })
		checkOwnMemory(t, name, m, func(m impl.Image) impl.Image { return impl.SetWord(m, 0, 1) })
	}
}

// patterns are lists of a number of bits: none, all, single ones, and mixed ones.
func patterns(count int) [][]bool {
	codes := []int{0, 1<<count - 1, 0x5555, 0xAAAA, 0x1234, 0xFEDC, 0x8001}
	for n := range count {
		codes = append(codes, 1<<n)
	}
	var list [][]bool
	for _, code := range codes {
		bits := make([]bool, count)
		for n := range bits {
			bits[n] = code>>n&1 == 1
		}
		list = append(list, bits)
	}
	return list
}

// P23: differences are symmetric; an image does not differ from itself; and setting the changed bits removes them.
func TestChangedBits(t *testing.T) {
	for count := range mostBits + 1 {
		for _, x := range patterns(count) {
			for _, y := range patterns(count) {
				a, b := impl.Image{Bits: x}, impl.Image{Bits: y, Words: []int{1, 2}}
				checkChangedBits(t, a, b)
			}
		}
	}
}

func checkChangedBits(t *testing.T, a impl.Image, b impl.Image) {
	t.Helper()
	var want []int
	for n := range a.Bits {
		if a.Bits[n] != b.Bits[n] {
			want = append(want, n)
		}
	}
	beforeA, beforeB := copied(a), copied(b)
	got := impl.ChangedBits(a, b)
	if !slices.Equal(got, want) || !slices.Equal(impl.ChangedBits(b, a), want) {
		t.Fatalf("ChangedBits(%v, %v) = %v, exchanged %v", a, b, got, impl.ChangedBits(b, a))
	}
	if !same(a, beforeA) || !same(b, beforeB) {
		t.Fatalf("ChangedBits changed %v or %v", beforeA, beforeB)
	}
	if len(impl.ChangedBits(a, a)) != 0 || len(impl.ChangedBits(b, b)) != 0 {
		t.Fatalf("%v or %v differs from itself", a, b)
	}
	x := a
	for _, n := range got {
		x = impl.SetBit(x, n, impl.GetBit(b, n))
	}
	if len(impl.ChangedBits(x, b)) != 0 || !slices.Equal(x.Bits, b.Bits) || !slices.Equal(x.Words, a.Words) {
		t.Fatalf("setting the changed bits of %v leads to %v and not to %v", a, x, b)
	}
}

// Words do not matter to the differences, neither their values nor their number.
func TestChangedBitsIgnoresWords(t *testing.T) {
	a := impl.Image{Bits: []bool{true, false, true}, Words: []int{1, 2, 3}}
	b := impl.Image{Bits: []bool{true, true, false}, Words: []int{9}}
	if got := impl.ChangedBits(a, b); !slices.Equal(got, []int{1, 2}) {
		t.Fatal(got)
	}
	b.Bits = []bool{true, false, true}
	if got := impl.ChangedBits(a, b); len(got) != 0 {
		t.Fatal(got)
	}
}

func TestChangedBitsOfInvalidArguments(t *testing.T) {
	// All bits of the partner are true, so that a difference would show.
	for name, m := range invalidImages() {
		partner := impl.Image{Bits: slices.Repeat([]bool{true}, len(m.Bits))}
		if got := impl.ChangedBits(m, partner); got != nil {
			t.Errorf("%s: %v", name, got)
		}
		if got := impl.ChangedBits(partner, m); got != nil {
			t.Errorf("%s, exchanged: %v", name, got)
		}
		if got := impl.ChangedBits(m, m); got != nil {
			t.Errorf("%s, with itself: %v", name, got)
		}
	}
	for x := range mostBits + 1 {
		for y := range mostBits + 1 {
			a, b := impl.NewImage(x, 1), impl.Image{Bits: slices.Repeat([]bool{true}, y)}
			if got := impl.ChangedBits(a, b); x != y && got != nil {
				t.Errorf("%d and %d bits: %v", x, y, got)
			}
		}
	}
}

func TestChangedBitsHasOwnMemory(t *testing.T) {
	a, b := impl.NewImage(4, 0), impl.SetBit(impl.NewImage(4, 0), 2, true)
	first := impl.ChangedBits(a, b)
	first[0] = 99
	if got := impl.ChangedBits(a, b); !slices.Equal(got, []int{2}) {
		t.Fatal(got)
	}
}
