package soft

import "softfloat/wide"

// product of A and B, neither of them a NaN.
func product(r Record) Result {
	sign := signOf(r.A) ^ signOf(r.B)
	endless := kindOf(r.A) == infinity || kindOf(r.B) == infinity
	nothing := kindOf(r.A) == zero || kindOf(r.B) == zero
	switch {
	case endless && nothing:
		return wrong()
	case endless:
		return Result{Bits: signed(sign, infinityBits)}
	case nothing:
		return Result{Bits: signed(sign, 0)}
	}
	a, b := exactly(r.A), exactly(r.B)
	return round(exact{sign, wide.Product(a.digits[0], b.digits[0]), a.power + b.power}, r.Mode)
}
