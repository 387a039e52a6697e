package soft

import "softfloat/wide"

// product of A and B, neither of them a NaN.
func product(r Record) Result {
	sign := signOf(r.A) ^ signOf(r.B)
	kinds := kindsOf(r)
	switch {
	case zeroTimesInfinity(r):
		return wrong()
	case kinds.has(infinity):
		return Result{Bits: signed(sign, infinityBits)}
	case kinds.has(zero):
		return Result{Bits: signed(sign, 0)}
	}
	return round(exactProduct(r), r.Mode)
}

// zeroTimesInfinity tells whether A * B is that, either way round.
func zeroTimesInfinity(r Record) bool {
	kinds := kindsOf(r)
	return kinds == pair{zero, infinity} || kinds == pair{infinity, zero}
}

// exactProduct of A and B, both finite.
func exactProduct(r Record) exact[wide.Two] {
	a, b := exactly(r.A), exactly(r.B)
	return exact[wide.Two]{a.sign ^ b.sign, wide.Product(a.digits[0], b.digits[0]), a.power + b.power}
}
