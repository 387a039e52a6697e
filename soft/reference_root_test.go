package soft_test

import (
	"math/big"
	"testing"
)

// twoTo is 2^n.
func twoTo(n int) *big.Int { return new(big.Int).Lsh(big.NewInt(1), uint(n)) }

func power(x *big.Int, degree int64) *big.Int { return new(big.Int).Exp(x, big.NewInt(degree), nil) }

// cubeRootOf x, which is above 0, without its fraction: by Newton's steps, down from above it.
func cubeRootOf(x *big.Int) *big.Int {
	root := twoTo(x.BitLen()/3 + 1)
	for {
		next := new(big.Int).Quo(x, power(root, 2))
		next.Add(next, root).Add(next, root).Quo(next, big.NewInt(3))
		if next.Cmp(root) >= 0 {
			return root
		}
		root = next
	}
}

// between is root * 2^basePower where that is exact, else the middle between it and the next multiple of 2^basePower: all numbers and all halves that rounding looks at are such multiples, so it stands on the same side of each as the exact root.
func between(root *big.Int, exact bool) ratio {
	over := new(big.Int).Lsh(root, 1)
	if !exact {
		over.Add(over, big.NewInt(1))
	}
	return ratio{over, big.NewInt(2)}
}

// rootOf finite operands; 0 where a rule ahead of rule 6 answers.
func rootOf(op byte, a, b uint64) ratio {
	x := multiple(a, 2*basePower)
	switch {
	case op == cbrt:
		return signedRoot(multiple(a, 3*basePower))
	case op == hypot:
		x.Add(power(multiple(a, basePower), 2), power(multiple(b, basePower), 2))
	case x.Sign() <= 0:
		return ratio{new(big.Int), big.NewInt(1)}
	case op == rsqrt:
		unit := twoTo(-4 * basePower)
		root := new(big.Int).Sqrt(new(big.Int).Quo(unit, x))
		return between(root, x.Mul(x, power(root, 2)).Cmp(unit) == 0)
	}
	root := new(big.Int).Sqrt(x)
	return between(root, power(root, 2).Cmp(x) == 0)
}

// signedRoot is the cube root of x * 2^(3 * basePower), or 0.
func signedRoot(x *big.Int) ratio {
	if x.Sign() == 0 {
		return ratio{x, big.NewInt(1)}
	}
	root := cubeRootOf(new(big.Int).Abs(x))
	out := between(root, power(root, 3).CmpAbs(x) == 0)
	out.over.Mul(out.over, big.NewInt(int64(x.Sign())))
	return out
}

// compareRoots asks for the roots of a and of -a.
func compareRoots(t *testing.T, a uint64) {
	t.Helper()
	for _, op := range []byte{sqrt, rsqrt, cbrt} {
		compare(t, op, a, 0, 0)
	}
	compare(t, cbrt, minus^a, 0, 0)
}

// P3, rule 6: the roots of the edges and of their neighbours, and hypot of every pair.
func TestEdgesRoots(t *testing.T) {
	for _, a := range edges() {
		compareRoots(t, a)
		if a > 0 && a < greatest {
			compareRoots(t, a-1)
			compareRoots(t, a+1)
		}
		for _, b := range edges() {
			compare(t, hypot, a, b, 0)
			compare(t, hypot, a, minus|b, 0)
		}
	}
}

// P3, rule 6: roots of normals, of subnormals of each length, and of powers of few digits, which are exact.
func TestMixedRoots(t *testing.T) {
	m := mixer(521288629)
	for range 1200 {
		compareRoots(t, m.finite())
		compareRoots(t, m.next()>>(12+m.next()%52))
		compareRoots(t, placed(0, int(m.next()%2047)))
		short := new(big.Int).SetUint64(m.next()>>(38+m.next()%26) | 1)
		compareRoots(t, top(power(short, 2), m.spread(900)))
		if short.BitLen() < 18 {
			compareRoots(t, top(power(short, 3), m.spread(900)))
		}
	}
}

// top is x * 2^shift, cut to 53 digits.
func top(x *big.Int, shift int) uint64 {
	drop := max(x.BitLen()-53, 0)
	x = new(big.Int).Rsh(x, uint(drop))
	return bitsOf(x.Lsh(x, uint(drop+shift-basePower)))
}

// P3, rule 6: operands whose roots lie as near as can be to a number of 53 digits, and to a half.
func TestNearRoots(t *testing.T) {
	m := mixer(1234567891)
	for range 1500 {
		goal := new(big.Int).SetUint64(1<<53 | m.next()>>11) // 54 digits
		shift := m.spread(200)
		for op, x := range map[byte]uint64{
			sqrt:  top(power(goal, 2), 2*shift),
			cbrt:  top(power(goal, 3), 3*shift),
			rsqrt: top(new(big.Int).Quo(twoTo(300), power(goal, 2)), 2*shift),
		} {
			for _, a := range []uint64{x - 1, x, x + 1, x + 2} {
				compare(t, op, a, 0, 0)
			}
		}
	}
}

// P3, rule 6: sides that lie apart by some digits, at both ends too.
func TestMixedHypotenuse(t *testing.T) {
	m := mixer(987654321)
	for range 2500 {
		a, b := m.finite(), m.finite()
		compare(t, hypot, a, b, 0)
		e := int(a >> 52 & 0x7ff)
		compare(t, hypot, a, placed(b, e+m.spread(8)), 0)
		compare(t, hypot, a, placed(b, e+m.spread(320)), 0)
		compare(t, hypot, placed(a, 2046), placed(b, 2046-int(m.next()%40)), 0)
		compare(t, hypot, m.next()>>(12+m.next()%52), m.next()>>(12+m.next()%52), 0)
		compare(t, hypot, placed(a, int(m.next()%3)), placed(b, int(m.next()%3)), 0)
	}
}

// P3, rule 6: sides of whole triangles, the length of which is exact or falls on a half, and of subnormal ones, where it is exact.
func TestWholeHypotenuse(t *testing.T) {
	m := mixer(192837465)
	for range 2500 {
		x, y := m.next()>>37+2, m.next()>>37+1
		if x == y {
			continue
		}
		a := new(big.Int).Sub(new(big.Int).SetUint64(x*x), new(big.Int).SetUint64(y*y))
		b := new(big.Int).SetUint64(2 * x * y)
		shift := m.spread(900)
		compare(t, hypot, top(a.Abs(a), shift), top(b, shift), 0)
		x, y = max(x, y)>>2, min(x, y)>>2
		compare(t, hypot, x*x-y*y, 2*x*y, 0)
	}
}

// otherSide is the second side, without its fraction, of a triangle with this length; the first side is less than that.
func otherSide(length, side *big.Int) *big.Int {
	rest := new(big.Int).Sub(power(length, 2), power(side, 2))
	return rest.Sqrt(rest)
}

// P3, rule 6: sides whose length lies as near as can be to a number of 53 digits, and to a half.
func TestNearHypotenuse(t *testing.T) {
	m := mixer(1029384756)
	const more = 60 // so that the second side has 53 digits, however short it is
	for range 1500 {
		length := new(big.Int).SetUint64(1<<53 | m.next()>>11) // 54 digits
		side := new(big.Int).SetUint64(m.next()>>(11+m.next()%30) | 1)
		second := otherSide(length.Lsh(length, more), new(big.Int).Lsh(side, more))
		shift := m.spread(900)
		a, b := top(side, shift), top(second, shift-more)
		for _, x := range []uint64{b - 1, b, b + 1} {
			compare(t, hypot, a, x, 0)
		}
	}
}

// P3, rule 6: subnormal sides whose length lies as near as can be to a half of the last digit.
func TestNearHypotenuseSubnormal(t *testing.T) {
	m := mixer(564738291)
	for range 1500 {
		a := m.next() >> (13 + m.next()%50)
		length := a + m.next()>>(13+m.next()%50)
		twice := otherSide(new(big.Int).SetUint64(2*length+1), new(big.Int).SetUint64(2*a)).Uint64()
		compare(t, hypot, a, twice/2, 0)
		compare(t, hypot, a, twice/2+1, 0)
	}
}
