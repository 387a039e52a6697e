package soft_test

import (
	"math/big"
	"testing"

	"softfloat/soft"
)

// basePower: 2 to this is so small that of every sum, product, quotient and root of finite numbers more than 53 digits stand above it.
const basePower = -2300

// ratio is the number over / under * 2^basePower; under is above 0.
type ratio struct{ over, under *big.Int }

// multiple is finite bits as a multiple of 2^power.
func multiple(bits uint64, power int) *big.Int {
	e, f := int(bits>>52&0x7ff), int64(bits&(1<<52-1))
	if e > 0 {
		f += 1 << 52
		e--
	}
	out := new(big.Int).Lsh(big.NewInt(f), uint(e-1074-power))
	if bits>>63 == 1 {
		out.Neg(out)
	}
	return out
}

// roundedTo rounds x to a multiple of 2^(n + basePower): how many of these it is.
func roundedTo(x ratio, n uint, mode byte) *big.Int {
	unit := new(big.Int).Lsh(x.under, n)
	low, rest := new(big.Int).DivMod(x.over, unit, new(big.Int)) // low is the one below x
	if rest.Sign() == 0 {
		return low
	}
	high := new(big.Int).Add(low, big.NewInt(1))
	toZero, away := low, high
	if x.over.Sign() < 0 {
		toZero, away = high, low
	}
	side := rest.Lsh(rest, 1).Cmp(unit)
	switch {
	case mode == 2:
		return toZero
	case mode == 3 || mode < 2 && side > 0:
		return high
	case mode == 4 || side < 0:
		return low
	case mode == 1:
		return away
	case low.Bit(0) == 0:
		return low
	}
	return high
}

// is tells whether x is y * 2^basePower.
func (x ratio) is(y *big.Int) bool {
	return x.over.Cmp(new(big.Int).Mul(y, x.under)) == 0
}

// drop is how many digits of x lie below its first 53.
func (x ratio) drop() uint {
	whole := new(big.Int).Quo(x.over, x.under)
	return uint(whole.BitLen() - 53)
}

// rounded is section 'Words', 'To round', word for word; x is not 0.
func rounded(x ratio, mode byte) soft.Result {
	y := new(big.Int).Lsh(roundedTo(x, x.drop(), mode), x.drop())
	sign := uint64(0)
	if x.over.Sign() < 0 {
		sign = minus
	}
	least := new(big.Int).Lsh(big.NewInt(1), uint(-1022-basePower))
	switch {
	case y.CmpAbs(multiple(greatest, basePower)) > 0:
		if mode == 2 || mode == 3 && sign != 0 || mode == 4 && sign == 0 {
			return soft.Result{Bits: sign | greatest, Flags: 5}
		}
		return soft.Result{Bits: sign | infinite, Flags: 5}
	case y.CmpAbs(least) < 0:
		unit := uint(-1074 - basePower)
		n := roundedTo(x, unit, mode)
		out := soft.Result{Bits: sign | new(big.Int).Abs(n).Uint64()}
		if !x.is(n.Lsh(n, unit)) {
			out.Flags = 3
		}
		return out
	}
	out := soft.Result{Bits: sign | bitsOf(y)}
	if !x.is(y) {
		out.Flags = 1
	}
	return out
}

// bitsOf a normal y * 2^basePower of at most 53 digits, without its sign.
func bitsOf(y *big.Int) uint64 {
	amount := new(big.Int).Abs(y)
	top := amount.BitLen() - 1
	fraction := amount.Rsh(amount, uint(top-52)).Uint64() - 1<<52
	return uint64(top+basePower+1023)<<52 | fraction
}

// exactly is the exact number that finite operands have.
func exactly(op byte, a, b, c uint64) ratio {
	x, y := multiple(a, basePower), multiple(b, basePower)
	under := big.NewInt(1)
	switch op {
	case add:
		x.Add(x, y)
	case sub:
		x.Sub(x, y)
	case mul:
		x.Mul(x, multiple(b, -1074)).Rsh(x, 1074)
	case div:
		under = multiple(b, -1074)
		x.Mul(x, big.NewInt(int64(under.Sign()))).Lsh(x, 1074)
		under.Abs(under)
	case fma:
		x.Mul(x, multiple(b, -1074)).Rsh(x, 1074)
		x.Add(x, multiple(c, basePower))
	default:
		return rootOf(op, a, b)
	}
	return ratio{x, under}
}

// compare asks in each mode, where the exact number is one and is not 0.
func compare(t *testing.T, op byte, a, b, c uint64) {
	t.Helper()
	x := exactly(op, a, b, c)
	if x.over.Sign() == 0 || x.under.Sign() == 0 {
		return
	}
	for mode := range byte(5) {
		expect(t, soft.Record{Op: op, Mode: mode, A: a, B: b, C: c}, rounded(x, mode))
	}
}

func compareAll(t *testing.T, a, b uint64) {
	t.Helper()
	for op := byte(add); op <= div; op++ {
		compare(t, op, a, b, 0)
	}
}

// edges: numbers beside which digits, exponents or halves change.
func edges() []uint64 {
	return []uint64{
		0, least, 2, 3, 0x0007ffffffffffff, 0x0008000000000000, greatestSub - 1, greatestSub,
		leastNormal, leastNormal + 1, 0x001fffffffffffff, 0x0020000000000000, 0x0350000000000001,
		0x1e50000000000000, 0x1ff0000000000000, 0x1ff7ffffffffffff, 0x2000000000000001,
		tiny - 1, tiny, tiny + 1, 0x3cafffffffffffff, 0x3cb0000000000000, 0x3cb0000000000001,
		half, half + 1, belowOne - 1, belowOne, one, nextToOne, nextToOne + 1, 0x3ff8000000000000,
		0x3fffffffffffffff, two, three, 0x400fffffffffffff, 0x4330000000000000, 0x433fffffffffffff,
		0x4340000000000000, 0x5fe0000000000000, 0x5fefffffffffffff, 0x5ff0000000000000,
		0x7c8fffffffffffff, 0x7c90000000000000, 0x7ca0000000000000, 0x7fdfffffffffffff,
		0x7fe0000000000000, greatest - 1, greatest,
	}
}

// P3, rule 6: every pair of the edges.
func TestEdges(t *testing.T) {
	for _, a := range edges() {
		for _, b := range edges() {
			compareAll(t, a, b)
			compareAll(t, a, minus|b)
			compareAll(t, minus|a, b)
			compareAll(t, minus|a, minus|b)
		}
	}
}

// mixer: numbers of all kinds, the same ones in each run.
type mixer uint64

func (m *mixer) next() uint64 {
	x := uint64(*m)
	x ^= x << 13
	x ^= x >> 7
	x ^= x << 17
	*m = mixer(x)
	return x
}

func (m *mixer) finite() uint64 {
	for {
		if x := m.next(); x>>52&0x7ff < 0x7ff {
			return x
		}
	}
}

// placed is bits with another exponent, or with the nearest that a finite number has.
func placed(bits uint64, exponent int) uint64 {
	return bits&^(0x7ff<<52) | uint64(min(max(exponent, 0), 0x7fe))<<52
}

// spread is one of n numbers about 0.
func (m *mixer) spread(n uint64) int { return int(m.next()%n) - int(n/2) }

// P3, rule 6: operands near each other, and products and quotients near either end.
func TestMixed(t *testing.T) {
	m := mixer(2463534242)
	for range 6000 {
		a, b := m.finite(), m.finite()
		compareAll(t, a, b)
		e := int(a >> 52 & 0x7ff)
		compareAll(t, a, placed(b, e+m.spread(160)))
		compare(t, mul, a, placed(b, 1023-e+m.spread(64)), 0)
		compare(t, mul, a, placed(b, 3069-e+m.spread(4)), 0)
		compare(t, div, a, placed(b, e+1046+m.spread(64)), 0)
		compare(t, div, a, placed(b, e-1024+m.spread(4)), 0)
	}
}

// P3, rule 6: quotients of few digits, which are exact or fall on a half, where they are subnormal.
func TestMixedShort(t *testing.T) {
	m := mixer(88172645463325252)
	for range 6000 {
		short := m.finite() &^ (1<<32 - 1)
		other := m.next()>>44<<32 | one
		for _, op := range []byte{mul, div} {
			compare(t, op, m.next()>>(12+m.next()%52), other, 0)
			compare(t, op, short, other, 0)
		}
		whole := soft.Do(soft.Record{Op: mul, A: short, B: other})
		compare(t, div, whole.Bits&^infinite|short&infinite, other, 0)
		compare(t, div, m.next()>>(12+m.next()%52), placed(0, 1023+m.spread(8)), 0)
	}
}

// P3, rule 6: every three of the edges.
func TestEdgesFused(t *testing.T) {
	edges := []uint64{
		least, 3, greatestSub, leastNormal, leastNormal + 1, 0x0350000000000001, 0x1ff0000000000000,
		0x1ff7ffffffffffff, tiny, tiny + 1, 0x3cb0000000000000, half, belowOne, one, nextToOne,
		0x3ff8000000000000, three, 0x433fffffffffffff, 0x5fefffffffffffff, 0x7c90000000000000,
		0x7fe0000000000000, greatest,
	}
	for _, a := range edges {
		for _, b := range edges {
			for _, c := range edges {
				compare(t, fma, a, b, c)
				compare(t, fma, a, b, minus|c)
				compare(t, fma, minus|a, b, c)
				compare(t, fma, minus|a, b, minus|c)
			}
		}
	}
}

// P3, rule 6: a product and a third operand that lie apart by some digits on each side, and that nearly cancel.
func TestMixedFused(t *testing.T) {
	m := mixer(362436069)
	for range 6000 {
		a, b, c := m.finite(), m.finite(), m.finite()
		compare(t, fma, a, b, c)
		// where the product is to lie: subnormal, normal, above the greatest
		for _, e := range []int{-20, 1023, int(m.next() % 2046), 2046} {
			b = placed(b, 1023+e-int(a>>52&0x7ff)+m.spread(120))
			product := soft.Do(soft.Record{Op: mul, A: a, B: b}).Bits
			compare(t, fma, a, b, placed(c, int(product>>52&0x7ff)+m.spread(600)))
			if product&infinite != infinite {
				compare(t, fma, a, b, minus^product)
				compare(t, fma, a, b, minus^product^m.next()%8)
			}
		}
	}
}
