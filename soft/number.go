package soft

import "softfloat/wide"

// What Class tells, the sign left out.
const (
	zero = iota
	subnormal
	normal
	infinity
	quietNaN
	signallingNaN
)

// belowZero is what Class tells more of a number whose sign is 1.
const belowZero = 8

// Where the parts of a number's bits lie.
const (
	fractionBits = 52
	signPlace    = 63

	hidden       = uint64(1) << fractionBits // the digit that a normal has above its fraction
	quietBit     = hidden >> 1
	fractionPart = hidden - 1
	signBit      = uint64(1) << signPlace
	topExponent  = 0x7ff

	infinityBits = uint64(topExponent) << fractionBits
	greatestBits = infinityBits - 1
	plainNaN     = infinityBits | quietBit
)

// The powers of 2 of which finite numbers are whole multiples below 2^53.
const (
	leastPower    = -1074
	greatestPower = 971
)

// wordDigits is how many digits a word has.
const wordDigits = 64

// exact is (-1)^sign * digits * 2^power. Where a number has more digits than fit, the lowest one is 1 in place of all below it: rounding still sees on which side of a half the number lies, as long as two digits or more are cut off.
type exact[W wide.Words] struct {
	sign   uint64
	digits W
	power  int
}

// pair is of what kinds two operands are.
type pair struct{ first, second int }

func (p pair) has(kind int) bool { return p.first == kind || p.second == kind }

func signOf(bits uint64) uint64 { return bits >> signPlace }

func exponentOf(bits uint64) uint64 { return bits >> fractionBits & topExponent }

// kindOf is the bits' class without the sign.
func kindOf(bits uint64) int {
	exponent, fraction := exponentOf(bits), bits&fractionPart
	switch {
	case exponent == 0 && fraction == 0:
		return zero
	case exponent == 0:
		return subnormal
	case exponent < topExponent:
		return normal
	case fraction == 0:
		return infinity
	case fraction&quietBit != 0:
		return quietNaN
	}
	return signallingNaN
}

// kindsOf A and B.
func kindsOf(r Record) pair { return pair{kindOf(r.A), kindOf(r.B)} }

// exactly is the number that finite bits stand for.
func exactly(bits uint64) exact[wide.Two] {
	exponent, fraction := exponentOf(bits), bits&fractionPart
	if exponent == 0 {
		return exact[wide.Two]{signOf(bits), wide.Two{fraction}, leastPower}
	}
	return exact[wide.Two]{signOf(bits), wide.Two{fraction | hidden}, leastPower + int(exponent) - 1}
}

// wider is the same number, with room for more digits.
func wider(x exact[wide.Two]) exact[wide.Four] {
	return exact[wide.Four]{x.sign, wide.Wider(x.digits), x.power}
}

// opposite is -x.
func opposite[W wide.Words](x exact[W]) exact[W] {
	x.sign ^= 1
	return x
}

// signed are bits without a sign, given one.
func signed(sign, bits uint64) uint64 { return sign<<signPlace | bits }
