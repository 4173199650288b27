package impl

// Image is a process image: bits and words that a program reads and writes.
type Image struct {
	Bits  []bool
	Words []int
}

// MaxBits and MaxWords are the maximum numbers of bits and words of an image; WordTop and WordLow are the largest and the smallest word.
const (
	MaxBits  = 16
	MaxWords = 8
	WordTop  = 32767
	WordLow  = -32768
)

// bitSet is a set of bit numbers in 0..MaxBits-1: binary digit n is 1 if bit n is in it.
// It does not say how many bits an image has, so that number is passed beside it.
type bitSet uint16

// bitSetOf returns the numbers of the true bits of a list; bits past MaxBits-1 have no place in a set.
func bitSetOf(list []bool) bitSet {
	var s bitSet
	for n, value := range list {
		s = s.with(n, value)
	}
	return s
}

// has reports whether bit n is in the set.
func (s bitSet) has(n int) bool {
	return n >= 0 && n < MaxBits && s&(1<<n) != 0
}

// with returns the set with bit n in it or not; unchanged if no set has a bit n.
func (s bitSet) with(n int, value bool) bitSet {
	if n < 0 || n >= MaxBits {
		return s
	}
	if value {
		return s | 1<<n
	}
	return s &^ (1 << n)
}

// bools returns the first count bits as a new list.
func (s bitSet) bools(count int) []bool {
	list := make([]bool, count)
	for n := range list {
		list[n] = s.has(n)
	}
	return list
}

// numbers returns the numbers of the set in ascending order; nil for the empty set.
func (s bitSet) numbers() []int {
	var list []int
	for n := range MaxBits {
		if s.has(n) {
			list = append(list, n)
		}
	}
	return list
}

// wordList holds the words of an image.
type wordList []int

// isWord reports whether a number is in WordLow..WordTop.
func isWord(x int) bool {
	return x >= WordLow && x <= WordTop
}

// areWords reports whether all numbers are in WordLow..WordTop.
func areWords(numbers ...int) bool {
	for _, x := range numbers {
		if !isWord(x) {
			return false
		}
	}
	return true
}

// nearestWord moves a number to the nearest one in WordLow..WordTop.
func nearestWord(x int) int {
	return limited(x, WordLow, WordTop)
}

// valid reports whether an image can have these words.
func (w wordList) valid() bool {
	return len(w) <= MaxWords && areWords(w...)
}

// clone returns the words in new memory.
func (w wordList) clone() wordList {
	list := make(wordList, len(w))
	copy(list, w)
	return list
}

// with returns the words in new memory, word n replaced by the word nearest to a value; unchanged if there is no such word.
func (w wordList) with(n int, value int) wordList {
	list := w.clone()
	if n >= 0 && n < len(list) {
		list[n] = nearestWord(value)
	}
	return list
}

// ImageValid reports whether an image is valid: it has at most MaxBits bits and at most MaxWords words, all in WordLow..WordTop.
func ImageValid(m Image) bool {
	return len(m.Bits) <= MaxBits && wordList(m.Words).valid()
}

// NewImage returns an image with a number of bits, all false, and of words, all 0; the zero value if a number is negative or too large.
func NewImage(bits int, words int) Image {
	if bits < 0 || bits > MaxBits || words < 0 || words > MaxWords {
		return Image{}
	}
	return Image{Bits: bitSet(0).bools(bits), Words: make(wordList, words)}
}

// GetBit returns bit number n of any image; false if there is none.
func GetBit(m Image, n int) bool {
	// The list is read and not a set: an image that is not valid may have bits past MaxBits-1.
	return n >= 0 && n < len(m.Bits) && m.Bits[n]
}

// SetBit returns a valid image with bit number n replaced by a value; the image unchanged if there is no such bit; the zero value if the image is invalid.
func SetBit(m Image, n int, value bool) Image {
	if !ImageValid(m) {
		return Image{}
	}
	// A bit past the last one of the image falls away when the set is written back.
	bits := bitSetOf(m.Bits).with(n, value)
	return Image{Bits: bits.bools(len(m.Bits)), Words: wordList(m.Words).clone()}
}

// GetWord returns word number n of any image; 0 if there is none.
func GetWord(m Image, n int) int {
	if n < 0 || n >= len(m.Words) {
		return 0
	}
	return m.Words[n]
}

// SetWord returns a valid image with word number n replaced by a value, which is moved to the nearest number in WordLow..WordTop; the image unchanged if there is no such word; the zero value if the image is invalid.
func SetWord(m Image, n int, value int) Image {
	if !ImageValid(m) {
		return Image{}
	}
	return Image{Bits: bitSetOf(m.Bits).bools(len(m.Bits)), Words: wordList(m.Words).with(n, value)}
}

// ChangedBits returns the numbers of the bits in which two valid images with equal numbers of bits differ, in ascending order; nil for other arguments.
func ChangedBits(a Image, b Image) []int {
	if !ImageValid(a) || !ImageValid(b) || len(a.Bits) != len(b.Bits) {
		return nil
	}
	return (bitSetOf(a.Bits) ^ bitSetOf(b.Bits)).numbers()
}
