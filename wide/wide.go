// Package wide reckons with whole numbers of several words, the lowest word first. They wrap round as a single word does.
package wide

import "math/bits"

// Two and Four are numbers of so many words.
type (
	Two  [2]uint64
	Four [4]uint64
)

// Words are the widths that the same steps serve.
type Words interface{ Two | Four }

// Rest is what Cut takes away, held against half a unit of what it leaves.
type Rest uint8

const (
	Nothing Rest = iota
	BelowHalf
	Half
	AboveHalf
)

const wordBits = 64

// Product of two words, whole.
func Product(x, y uint64) Two {
	high, low := bits.Mul64(x, y)
	return Two{low, high}
}

// Wider is x, with words of 0 above.
func Wider(x Two) Four { return Four{x[0], x[1]} }

// Add is x + y.
func Add[W Words](x, y W) W {
	var sum W
	var carry uint64
	for i := 0; i < len(x); i++ {
		sum[i], carry = bits.Add64(x[i], y[i], carry)
	}
	return sum
}

// Sub is x - y, and whether it wrapped, as it does where x is the lesser.
func Sub[W Words](x, y W) (W, bool) {
	var difference W
	var borrow uint64
	for i := 0; i < len(x); i++ {
		difference[i], borrow = bits.Sub64(x[i], y[i], borrow)
	}
	return difference, borrow == 1
}

// Times is x * y, less what leaves the highest word.
func Times[W Words](x W, y uint64) W {
	var product W
	var carry, more uint64
	for i := 0; i < len(x); i++ {
		high, low := bits.Mul64(x[i], y)
		product[i], more = bits.Add64(low, carry, 0)
		carry = high + more // of two words' product the high one is never full
	}
	return product
}

// Length is how many binary digits x has; of 0 it is 0.
func Length[W Words](x W) int {
	for i := len(x) - 1; i >= 0; i-- {
		if x[i] != 0 {
			return i*wordBits + bits.Len64(x[i])
		}
	}
	return 0
}

// Room is how many places stand empty above the digits of x.
func Room[W Words](x W) int { return len(x)*wordBits - Length(x) }

// Left is x * 2^n, less what leaves the highest word.
func Left[W Words](x W, n uint) W {
	var out W
	words, shift := int(n/wordBits), n%wordBits
	for i := 0; i < len(x); i++ {
		out[i] = word(x, i-words)<<shift | word(x, i-words-1)>>(wordBits-shift)
	}
	return out
}

// Cut is x / 2^n without its fraction, and how great the fraction was.
func Cut[W Words](x W, n uint) (W, Rest) {
	var kept W
	words, shift := int(n/wordBits), n%wordBits
	for i := 0; i < len(x); i++ {
		kept[i] = word(x, i+words)>>shift | word(x, i+words+1)<<(wordBits-shift)
	}
	return kept, lowest(x, n)
}

// lowest weighs the n lowest digits of x: moved up to the top, they need one comparison with half, however many they are.
func lowest[W Words](x W, n uint) Rest {
	var none, half W
	top := len(x) - 1
	half[top] = 1 << (wordBits - 1)
	width := uint(len(x)) * wordBits
	if n > width {
		if x == none {
			return Nothing
		}
		return BelowHalf
	}
	moved := Left(x, width-n)
	switch {
	case moved == none:
		return Nothing
	case moved == half:
		return Half
	case moved[top] >= half[top]:
		return AboveHalf
	}
	return BelowHalf
}

// word is 0 beyond either end, so that shifts need no cases of their own there.
func word[W Words](x W, i int) uint64 {
	if i < 0 || i >= len(x) {
		return 0
	}
	return x[i]
}
