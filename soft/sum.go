package soft

import "softfloat/wide"

// room is how far the digits of a number can be moved up so that a sum of two such still fits.
const room = 70

// difference is a sum with the other sign of B: a NaN, whose sign must stay, does not come here.
func difference(r Record) Result {
	r.B ^= signBit
	return sum(r)
}

// sum of A and B, neither of them a NaN.
func sum(r Record) Result {
	first, second := kindOf(r.A) == infinity, kindOf(r.B) == infinity
	switch {
	case first && second && r.A != r.B:
		return wrong()
	case first:
		return Result{Bits: r.A}
	case second:
		return Result{Bits: r.B}
	}
	x := exactSum(exactly(r.A), exactly(r.B), r.Mode)
	if x.digits == (wide.Two{}) {
		return Result{Bits: signed(x.sign, 0)}
	}
	return round(x, r.Mode)
}

// exactSum of two numbers; the mode is asked for the sign of a 0 alone.
func exactSum(x, y exact, mode byte) exact {
	x, y = aligned(x, y)
	if x.sign == y.sign {
		x.digits = wide.Add(x.digits, y.digits)
		return x
	}
	if x.digits == y.digits {
		return exact{sign: zeroSign(mode)}
	}
	digits, wrapped := wide.Sub(x.digits, y.digits)
	if wrapped {
		digits, _ = wide.Sub(y.digits, x.digits)
		x.sign = y.sign
	}
	x.digits = digits
	return x
}

// zeroSign is the sign of parts that cancel.
func zeroSign(mode byte) uint64 {
	if mode == down {
		return 1
	}
	return 0
}

// aligned gives both numbers one power, the one of the greater power first. That one is a normal wherever the other is cut, so the sum has more than 120 digits there, and the lowest may stand for what is lost.
func aligned(x, y exact) (exact, exact) {
	if x.power < y.power {
		x, y = y, x
	}
	apart := x.power - y.power
	lift := min(apart, room)
	x.digits = wide.Left(x.digits, uint(lift))
	x.power -= lift
	kept, rest := wide.Cut(y.digits, uint(apart-lift))
	if rest != wide.Nothing {
		kept[0] |= 1
	}
	y.digits, y.power = kept, x.power
	return x, y
}
