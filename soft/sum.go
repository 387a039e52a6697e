package soft

import "softfloat/wide"

// difference is a sum with the other sign of B: a NaN, whose sign must stay, does not come here.
func difference(r Record) Result {
	r.B ^= signBit
	return sum(r)
}

// sum of A and B, neither of them a NaN.
func sum(r Record) Result {
	first, second := kindOf(r.A) == infinity, kindOf(r.B) == infinity
	switch {
	case first && second && r.A != r.B:
		return wrong()
	case first:
		return Result{Bits: r.A}
	case second:
		return Result{Bits: r.B}
	}
	return roundedSum(exactly(r.A), exactly(r.B), r.Mode)
}

// roundedSum of two numbers, either or both of which may be 0.
func roundedSum[W wide.Words](x, y exact[W], mode byte) Result {
	x = exactSum(x, y, mode)
	var none W
	if x.digits == none {
		return Result{Bits: signed(x.sign, 0)}
	}
	return round(x, mode)
}

// exactSum of two numbers; the mode is asked for the sign of a 0 alone.
func exactSum[W wide.Words](x, y exact[W], mode byte) exact[W] {
	x, y = aligned(x, y)
	if x == opposite(y) {
		return exact[W]{sign: zeroSign(mode)}
	}
	if x.sign == y.sign {
		x.digits = wide.Add(x.digits, y.digits)
		return x
	}
	digits, wrapped := wide.Sub(x.digits, y.digits)
	if wrapped {
		digits, _ = wide.Sub(y.digits, x.digits)
		x.sign = y.sign
	}
	x.digits = digits
	return x
}

// zeroSign is the sign of parts that cancel.
func zeroSign(mode byte) uint64 {
	if mode == down {
		return 1
	}
	return 0
}

// aligned gives both numbers one power, the one of the greater power first. Where the other is cut, that one must not be 0: it then reaches so far above the other that the sum has nearly all the digits there are, and the lowest may stand for what is lost.
func aligned[W wide.Words](x, y exact[W]) (exact[W], exact[W]) {
	if x.power < y.power {
		x, y = y, x
	}
	apart := x.power - y.power
	lift := min(apart, wide.Room(x.digits)-1) // one place is left for a carry
	x.digits = wide.Left(x.digits, uint(lift))
	x.power -= lift
	kept, rest := wide.Cut(y.digits, uint(apart-lift))
	if rest != wide.Nothing {
		kept[0] |= 1
	}
	y.digits, y.power = kept, x.power
	return x, y
}
