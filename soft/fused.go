package soft

// fused is A * B + C, none of them a NaN: a quiet one in C comes here beside zero * infinity alone, and does not count there.
func fused(r Record) Result {
	kinds, third := kindsOf(r), kindOf(r.C)
	switch {
	case zeroTimesInfinity(r):
		return wrong()
	case kinds.has(infinity) || kinds.has(zero):
		return sum(Record{Mode: r.Mode, A: product(r).Bits, B: r.C})
	case third == infinity:
		return Result{Bits: r.C}
	case third == zero:
		return product(r)
	}
	return roundedSum(wider(exactProduct(r)), wider(exactly(r.C)), r.Mode)
}
