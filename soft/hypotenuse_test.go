package soft_test

import (
	"testing"

	"softfloat/soft"
)

// sides holds in each of the modes that it lists: of hypot, whatever the signs and the order of its operands.
type sides struct {
	modes string
	a, b  uint64
	bits  uint64
	flags uint8
}

func checkSides(t *testing.T, rows []sides) {
	t.Helper()
	for _, w := range rows {
		for _, first := range []uint64{w.a, minus ^ w.a} {
			for _, second := range []uint64{w.b, minus ^ w.b} {
				check(t, []row{
					{hypot, w.modes, first, second, w.bits, w.flags},
					{hypot, w.modes, second, first, w.bits, w.flags},
				})
			}
		}
	}
}

// P3, rule 1 of hypot, beside what TestNaN holds: an infinity goes ahead of a quiet NaN, but not of a signalling one.
func TestHypotenuseNaN(t *testing.T) {
	checkSides(t, []sides{
		{allModes, infinite, quiet, infinite, 0},
		{allModes, infinite, plainNaN, infinite, 0},
	})
	for _, x := range []uint64{infinite, minus | infinite} {
		check(t, []row{
			{hypot, allModes, x, signalling, signalling | 1<<51, 16},
			{hypot, allModes, x, minus | signalling, minus | signalling | 1<<51, 16},
			{hypot, allModes, signalling, x, signalling | 1<<51, 16},
			{hypot, allModes, minus | signalling, x, minus | signalling | 1<<51, 16},
		})
		// an infinity in C is none of its operands
		expect(t, soft.Record{Op: hypot, A: quiet, B: one, C: x}, soft.Result{Bits: quiet})
	}
}

// P3, rules 3 and 5 of hypot, and one side that is 0.
func TestHypotenuseSpecial(t *testing.T) {
	checkSides(t, []sides{
		{allModes, infinite, infinite, infinite, 0},
		{allModes, 0, infinite, infinite, 0},
		{allModes, 0, 0, 0, 0},
	})
	for _, x := range []uint64{least, 3, greatestSub, leastNormal, tiny, belowOne, one, nextToOne, three, greatest} {
		checkSides(t, []sides{
			{allModes, x, infinite, infinite, 0},
			{allModes, x, 0, x, 0},
		})
	}
}

// P3, rule 6 of hypot: exact, not, and on a half: 54 digits, of which the last is 1.
func TestHypotenuse(t *testing.T) {
	checkSides(t, []sides{
		{allModes, three, four, five, 0},
		{allModes, 3, 4, 5, 0},
		{"013", one, one, 0x3ff6a09e667f3bcd, 1},
		{"24", one, one, 0x3ff6a09e667f3bcc, 1},
		// 5928417995044941, 11385814126641140, 12836779317663509: the even one lies below
		{"024", 0x43350fdd60acb84d, 0x434439ab373f9ffa, 0x4346cd7dcba50b8a, 1},
		{"13", 0x43350fdd60acb84d, 0x434439ab373f9ffa, 0x4346cd7dcba50b8b, 1},
		// 7946866128377241, 5021248851419988, 9400299000044415: the even one lies above
		{"013", 0x433c3ba1f4a8d599, 0x4331d6cc9a1e2354, 0x4340b2c2d5570dc0, 1},
		{"24", 0x433c3ba1f4a8d599, 0x4331d6cc9a1e2354, 0x4340b2c2d5570dbf, 1},
	})
}

// P3, rule 6 of hypot: sides far apart.
func TestHypotenuseFarApart(t *testing.T) {
	checkSides(t, []sides{
		{"0124", one, 0x3e50000000000000, one, 1}, // 2^-26
		{"3", one, 0x3e50000000000000, nextToOne, 1},
		{"013", one, 0x3e50000000000001, nextToOne, 1},
		{"24", one, 0x3e50000000000001, one, 1},
		{"0124", nextToOne, 0x3e50000000000000, nextToOne, 1},
		{"3", nextToOne, 0x3e50000000000000, nextToOne + 1, 1},
		{"013", nextToOne, 0x3e50000000000002, nextToOne + 1, 1},
		{"24", nextToOne, 0x3e50000000000002, nextToOne, 1},
		{"0124", belowOne, 0x3e40000000000000, belowOne, 1},
		{"3", belowOne, 0x3e40000000000000, one, 1},
	})
	// 2^-60, 2^-64, 2^-65, 2^-100, and to the end
	for _, b := range []uint64{0x3c30000000000000, 0x3bf0000000000000, 0x3be0000000000000, 0x39b0000000000000, leastNormal, greatestSub, least} {
		checkSides(t, []sides{
			{"0124", one, b, one, 1},
			{"3", one, b, nextToOne, 1},
			{"0124", three, b, three, 1},
			{"3", three, b, three + 1, 1},
		})
	}
}

// P3, rule 6 of hypot: squares beyond either end of what is finite.
func TestHypotenuseSquares(t *testing.T) {
	checkSides(t, []sides{
		{allModes, 0x6588000000000000, 0x6590000000000000, 0x6594000000000000, 0}, // times 2^600
		{allModes, 0x1a88000000000000, 0x1a90000000000000, 0x1a94000000000000, 0}, // times 2^-600
		{"013", 0x6570000000000000, 0x6570000000000000, 0x6576a09e667f3bcd, 1},
		{"24", 0x6570000000000000, 0x6570000000000000, 0x6576a09e667f3bcc, 1},
		{"013", 0x1a70000000000000, 0x1a70000000000000, 0x1a76a09e667f3bcd, 1},
		{"24", 0x1a70000000000000, 0x1a70000000000000, 0x1a76a09e667f3bcc, 1},
		{"013", 0x7fe0000000000000, 0x7fe0000000000000, 0x7fe6a09e667f3bcd, 1},
		{"24", 0x7fe0000000000000, 0x7fe0000000000000, 0x7fe6a09e667f3bcc, 1},
		{"0124", 0x1e30000000000000, 0x0170000000000000, 0x1e30000000000000, 1},
		{"3", 0x1e30000000000000, 0x0170000000000000, 0x1e30000000000001, 1},
	})
}

// P3, rule 6 of hypot: above the greatest finite number, and beside it.
func TestHypotenuseOverflow(t *testing.T) {
	checkSides(t, []sides{
		{"013", greatest, greatest, infinite, 5},
		{"24", greatest, greatest, greatest, 5},
		{"0124", greatest, least, greatest, 1},
		{"3", greatest, least, infinite, 5},
		{"013", greatest, 0x7e50000000000000, infinite, 5},
		{"24", greatest, 0x7e50000000000000, greatest, 5}, // above 2^1024
		{"0124", greatest, 0x7e40000000000000, greatest, 1},
		{"3", greatest, 0x7e40000000000000, infinite, 5},
		// (2^54 - 1) * 2^970, on the half above the greatest, and beside it
		{"013", 0x7fd59b43fab3687f, 0x7fee1f0a43c3e148, infinite, 5},
		{"24", 0x7fd59b43fab3687f, 0x7fee1f0a43c3e148, greatest, 1},
		{"0124", 0x7fd59b43fab3687e, 0x7fee1f0a43c3e148, greatest, 1},
		{"3", 0x7fd59b43fab3687e, 0x7fee1f0a43c3e148, infinite, 5},
		{"013", 0x7fd59b43fab36880, 0x7fee1f0a43c3e148, infinite, 5},
		{"24", 0x7fd59b43fab36880, 0x7fee1f0a43c3e148, greatest, 1},
	})
}

// P3, rule 6 of hypot: subnormal results, and those that round up to the least normal.
func TestHypotenuseSubnormal(t *testing.T) {
	checkSides(t, []sides{
		{allModes, 5, 12, 13, 0},
		{"0124", least, least, least, 3},
		{"3", least, least, 2, 3},
		{"0124", 1, 2, 2, 3},
		{"3", 1, 2, 3, 3},
		{"013", 2, 3, 4, 3},
		{"24", 2, 3, 3, 3},
		{"0124", greatestSub, least, greatestSub, 3},
		{"3", greatestSub, least, leastNormal, 3},
		// less than the least normal by more than half a unit
		{"0124", greatestSub, 60000000, greatestSub, 3},
		{"3", greatestSub, 60000000, leastNormal, 3},
		// by less than a half, more than a quarter: to 53 digits it is below the least normal, but in mode 3
		{"01", greatestSub, 74000000, leastNormal, 3},
		{"3", greatestSub, 74000000, leastNormal, 1},
		{"24", greatestSub, 74000000, greatestSub, 3},
		// by less than a quarter
		{"013", greatestSub, 84000000, leastNormal, 1},
		{"24", greatestSub, 84000000, greatestSub, 3},
		{"0124", greatestSub, greatestSub, 0x0016a09e667f3bcb, 1},
		{"3", greatestSub, greatestSub, 0x0016a09e667f3bcc, 1},
		{"013", leastNormal, leastNormal, 0x0016a09e667f3bcd, 1},
		{"24", leastNormal, leastNormal, 0x0016a09e667f3bcc, 1},
		{"013", leastNormal, greatestSub, 0x0016a09e667f3bcc, 1},
		{"24", leastNormal, greatestSub, 0x0016a09e667f3bcb, 1},
		{"0124", leastNormal, least, leastNormal, 1},
		{"3", leastNormal, least, leastNormal + 1, 1},
	})
}
