package soft_test

import (
	"math/big"
	"testing"

	"softfloat/soft"
)

// basePower: sums and products of finite numbers are whole multiples of 2 to this.
const basePower = -2148

// multiple is finite bits as a multiple of 2^power.
func multiple(bits uint64, power int) *big.Int {
	e, f := int(bits>>52&0x7ff), int64(bits&(1<<52-1))
	if e > 0 {
		f += 1 << 52
		e--
	}
	out := new(big.Int).Lsh(big.NewInt(f), uint(e-1074-power))
	if bits>>63 == 1 {
		out.Neg(out)
	}
	return out
}

// roundedTo rounds x to a multiple of 2^n: how many of these it is.
func roundedTo(x *big.Int, n uint, mode byte) *big.Int {
	unit := new(big.Int).Lsh(big.NewInt(1), n)
	low, rest := new(big.Int).DivMod(x, unit, new(big.Int)) // low is the one below x
	if rest.Sign() == 0 {
		return low
	}
	high := new(big.Int).Add(low, big.NewInt(1))
	toZero, away := low, high
	if x.Sign() < 0 {
		toZero, away = high, low
	}
	side := rest.Lsh(rest, 1).Cmp(unit)
	switch {
	case mode == 2:
		return toZero
	case mode == 3 || mode < 2 && side > 0:
		return high
	case mode == 4 || side < 0:
		return low
	case mode == 1:
		return away
	case low.Bit(0) == 0:
		return low
	}
	return high
}

// rounded is section 'Words', 'To round', word for word, of x * 2^basePower; x is not 0.
func rounded(x *big.Int, mode byte) soft.Result {
	drop := uint(max(0, x.BitLen()-53))
	y := new(big.Int).Lsh(roundedTo(x, drop, mode), drop)
	sign := uint64(0)
	if x.Sign() < 0 {
		sign = minus
	}
	least := new(big.Int).Lsh(big.NewInt(1), uint(-1022-basePower))
	switch {
	case y.CmpAbs(multiple(greatest, basePower)) > 0:
		if mode == 2 || mode == 3 && sign != 0 || mode == 4 && sign == 0 {
			return soft.Result{Bits: sign | greatest, Flags: 5}
		}
		return soft.Result{Bits: sign | infinite, Flags: 5}
	case y.CmpAbs(least) < 0:
		unit := uint(-1074 - basePower)
		n := roundedTo(x, unit, mode)
		out := soft.Result{Bits: sign | new(big.Int).Abs(n).Uint64()}
		if new(big.Int).Lsh(n, unit).Cmp(x) != 0 {
			out.Flags = 3
		}
		return out
	}
	out := soft.Result{Bits: sign | bitsOf(y)}
	if y.Cmp(x) != 0 {
		out.Flags = 1
	}
	return out
}

// bitsOf a normal y * 2^basePower of at most 53 digits, without its sign.
func bitsOf(y *big.Int) uint64 {
	amount := new(big.Int).Abs(y)
	top := amount.BitLen() - 1
	fraction := amount.Rsh(amount, uint(top-52)).Uint64() - 1<<52
	return uint64(top+basePower+1023)<<52 | fraction
}

// reference is what finite operands have, and whether the exact number is not 0.
func reference(op, mode byte, a, b uint64) (soft.Result, bool) {
	x, y := multiple(a, basePower), multiple(b, basePower)
	switch op {
	case add:
		x.Add(x, y)
	case sub:
		x.Sub(x, y)
	case mul:
		x.Mul(multiple(a, -1074), multiple(b, -1074))
	}
	if x.Sign() == 0 {
		return soft.Result{}, false
	}
	return rounded(x, mode), true
}

func compare(t *testing.T, a, b uint64) {
	t.Helper()
	for op := byte(add); op <= mul; op++ {
		for mode := range byte(5) {
			if want, ok := reference(op, mode, a, b); ok {
				expect(t, soft.Record{Op: op, Mode: mode, A: a, B: b}, want)
			}
		}
	}
}

// P3, rule 6: every pair of the edges.
func TestEdges(t *testing.T) {
	edges := []uint64{
		0, least, 2, 3, 0x0007ffffffffffff, 0x0008000000000000, greatestSub - 1, greatestSub,
		leastNormal, leastNormal + 1, 0x001fffffffffffff, 0x0020000000000000, 0x0350000000000001,
		0x1e50000000000000, 0x1ff0000000000000, 0x1ff7ffffffffffff, 0x2000000000000001,
		tiny - 1, tiny, tiny + 1, 0x3cafffffffffffff, 0x3cb0000000000000, 0x3cb0000000000001,
		half, half + 1, belowOne - 1, belowOne, one, nextToOne, nextToOne + 1, 0x3ff8000000000000,
		0x3fffffffffffffff, two, three, 0x400fffffffffffff, 0x4330000000000000, 0x433fffffffffffff,
		0x4340000000000000, 0x5fe0000000000000, 0x5fefffffffffffff, 0x5ff0000000000000,
		0x7c8fffffffffffff, 0x7c90000000000000, 0x7ca0000000000000, 0x7fdfffffffffffff,
		0x7fe0000000000000, greatest - 1, greatest,
	}
	for _, a := range edges {
		for _, b := range edges {
			compare(t, a, b)
			compare(t, a, minus|b)
			compare(t, minus|a, b)
			compare(t, minus|a, minus|b)
		}
	}
}

// mixer: numbers of all kinds, the same ones in each run.
type mixer uint64

func (m *mixer) next() uint64 {
	x := uint64(*m)
	x ^= x << 13
	x ^= x >> 7
	x ^= x << 17
	*m = mixer(x)
	return x
}

func (m *mixer) finite() uint64 {
	for {
		if x := m.next(); x>>52&0x7ff < 0x7ff {
			return x
		}
	}
}

// P3, rule 6: operands near each other, and products near either end.
func TestMixed(t *testing.T) {
	m := mixer(2463534242)
	for range 6000 {
		a := m.finite()
		b := m.finite()
		compare(t, a, b)
		near := min(max(int(a>>52&0x7ff)+int(m.next()%160)-80, 0), 0x7fe)
		compare(t, a, b&^(0x7ff<<52)|uint64(near)<<52)
		end := min(max(1023-int(a>>52&0x7ff)+int(m.next()%64)-32, 0), 0x7fe)
		compare(t, a, b&^(0x7ff<<52)|uint64(end)<<52)
		top := min(max(3069-int(a>>52&0x7ff)+int(m.next()%4)-2, 0), 0x7fe)
		compare(t, a, b&^(0x7ff<<52)|uint64(top)<<52)
	}
}
