package soft

import (
	"math/bits"

	"softfloat/wide"
)

// The degrees of the roots.
const (
	square = 2
	cube   = 3
)

// squareRoot of A, no NaN.
func squareRoot(r Record) Result {
	kind := kindOf(r.A)
	switch {
	case kind != zero && signOf(r.A) == 1:
		return wrong()
	case kind == zero || kind == infinity:
		return Result{Bits: r.A}
	}
	return round(exactRoot(wider(exactly(r.A)), square), r.Mode)
}

// inverseRoot is 1 / the square root of A, no NaN.
func inverseRoot(r Record) Result {
	kind, sign := kindOf(r.A), signOf(r.A)
	switch {
	case kind == zero:
		return Result{Bits: signed(sign, infinityBits), Flags: divisionByZero}
	case sign == 1:
		return wrong()
	case kind == infinity:
		return Result{}
	}
	return round(exactInverseRoot(exactly(r.A)), r.Mode)
}

// cubeRoot of A, no NaN.
func cubeRoot(r Record) Result {
	if kind := kindOf(r.A); kind == zero || kind == infinity {
		return Result{Bits: r.A}
	}
	return round(exactRoot(wider(exactly(r.A)), cube), r.Mode)
}

// hypotenuse of A and B, none of them a NaN: a quiet one comes here beside an infinity alone, and does not count there.
func hypotenuse(r Record) Result {
	switch {
	case anInfinity(r):
		return Result{Bits: infinityBits}
	case kindsOf(r) == pair{zero, zero}:
		return Result{}
	}
	first, second := exactProduct(Record{A: r.A, B: r.A}), exactProduct(Record{A: r.B, B: r.B})
	return round(exactRoot(exactSum(wider(first), wider(second), r.Mode), square), r.Mode)
}

// anInfinity tells whether A or B is one.
func anInfinity(r Record) bool { return kindsOf(r).has(infinity) }

// exactRoot of a number that is not 0, by its amount. Its digits are moved up till they fill all words but for fewer places than the degree: so the root fills its word.
func exactRoot(x exact[wide.Four], degree int) exact[wide.Two] {
	below := (len(x.digits) - degree) * wordDigits
	lift := liftFor(degree, x.power+below, wide.Room(x.digits))
	root := reach(wide.Left(x.digits, uint(lift)), func(word uint64) wide.Four { return highPower(word, degree) })
	return exact[wide.Two]{x.sign, wide.Two{root}, (x.power + below - lift) / degree}
}

// highPower is a word to the degree, in as many words, the highest of four.
func highPower(word uint64, degree int) wide.Four {
	var out wide.Four
	out[len(out)-degree] = word
	for range degree - 1 {
		out = wide.Times(out, word)
	}
	return out
}

// exactInverseRoot of a number above 0. Its digits fill their word but for one place at most: so the root, whose square times these digits is to be 2^188, has 63 digits at least, and fits its word too where it is a power of 2.
func exactInverseRoot(x exact[wide.Two]) exact[wide.Two] {
	lift := liftFor(square, x.power, bits.LeadingZeros64(x.digits[0]))
	digits := x.digits[0] << lift
	const goalPower = 188
	goal := wide.Left(wide.Four{1}, goalPower)
	root := reach(goal, func(word uint64) wide.Four {
		return wide.Times(wide.Wider(wide.Product(word, word)), digits)
	})
	return exact[wide.Two]{0, wide.Two{root}, -(goalPower + x.power - lift) / square}
}

// liftFor is by how many places, up to room, digits of this power are moved up to have a power that the degree divides.
func liftFor(degree, power, room int) int {
	for (power-room)%degree != 0 {
		room--
	}
	return room
}

// reach is the greatest word whose value is not above the goal; if it is below, the word's lowest digit is 1 in place of all digits that would come behind it. The value grows with the word, and no word's is too great for four words.
func reach(goal wide.Four, value func(uint64) wide.Four) uint64 {
	var word uint64
	for digit := uint64(1) << (wordDigits - 1); digit != 0; digit >>= 1 {
		if _, above := wide.Sub(goal, value(word|digit)); !above {
			word |= digit
		}
	}
	if value(word) != goal {
		word |= 1
	}
	return word
}
