package soft

import (
	"math/bits"

	"softfloat/wide"
)

// quotient of A and B, neither of them a NaN.
func quotient(r Record) Result {
	sign := signOf(r.A) ^ signOf(r.B)
	kinds := kindsOf(r)
	switch {
	case kinds == pair{zero, zero} || kinds == pair{infinity, infinity}:
		return wrong()
	case kinds.first == infinity:
		return Result{Bits: signed(sign, infinityBits)}
	case kinds.first == zero || kinds.second == infinity:
		return Result{Bits: signed(sign, 0)}
	case kinds.second == zero:
		return Result{Bits: signed(sign, infinityBits), Flags: divisionByZero}
	}
	return round(exactQuotient(exactly(r.A), exactly(r.B)), r.Mode)
}

// exactQuotient of two numbers that are not 0. The divisor fills its word and the dividend all but one place of its own: so the quotient fits a word, and has 63 digits at least.
func exactQuotient(x, y exact[wide.Two]) exact[wide.Two] {
	dividend, divisor := x.digits[0], y.digits[0]
	above, below := bits.LeadingZeros64(dividend)-1, bits.LeadingZeros64(divisor)
	whole, rest := bits.Div64(dividend<<above, 0, divisor<<below)
	if rest != 0 {
		whole |= 1
	}
	return exact[wide.Two]{x.sign ^ y.sign, wide.Two{whole}, x.power - above - wordDigits - (y.power - below)}
}
