package soft_test

import "testing"

// P3, rule 1 of the operations on one operand.
func TestRootNaN(t *testing.T) {
	for _, op := range []byte{sqrt, rsqrt, cbrt} {
		check(t, []row{
			{op, allModes, quiet, one, quiet, 0},
			{op, allModes, minus | quiet, one, minus | quiet, 0},
			{op, allModes, minus | plainNaN, 0, minus | plainNaN, 0},
			{op, allModes, quiet, signalling, quiet, 0},
			{op, allModes, signalling, one, signalling | 1<<51, 16},
			{op, allModes, minus | signalling, quiet, minus | signalling | 1<<51, 16},
			{op, allModes, 0x7ff7ffffffffffff, 0, 0x7fffffffffffffff, 16},
		})
	}
}

// P3, rules 2 to 5 of sqrt, rsqrt and cbrt.
func TestRootSpecial(t *testing.T) {
	check(t, []row{
		{sqrt, allModes, 0, 0, 0, 0},
		{sqrt, allModes, minus, 0, minus, 0},
		{sqrt, allModes, infinite, 0, infinite, 0},
		{rsqrt, allModes, 0, 0, infinite, 8},
		{rsqrt, allModes, minus, 0, minus | infinite, 8},
		{rsqrt, allModes, infinite, 0, 0, 0},
		{cbrt, allModes, 0, 0, 0, 0},
		{cbrt, allModes, minus, 0, minus, 0},
		{cbrt, allModes, infinite, 0, infinite, 0},
		{cbrt, allModes, minus | infinite, 0, minus | infinite, 0},
	})
	for _, x := range []uint64{least, greatestSub, leastNormal, belowOne, one, two, four, greatest, infinite} {
		check(t, []row{
			{sqrt, allModes, minus | x, 0, plainNaN, 16},
			{rsqrt, allModes, minus | x, 0, plainNaN, 16},
		})
	}
}

// P3, rule 6 of sqrt.
func TestSquareRoot(t *testing.T) {
	check(t, []row{
		{sqrt, allModes, one, 0, one, 0},
		{sqrt, allModes, four, 0, two, 0},
		{sqrt, allModes, 0x3fd0000000000000, 0, half, 0},
		{sqrt, allModes, 0x4039000000000000, 0, five, 0},
		{sqrt, "013", two, 0, 0x3ff6a09e667f3bcd, 1},
		{sqrt, "24", two, 0, 0x3ff6a09e667f3bcc, 1},
		{sqrt, "0124", three, 0, 0x3ffbb67ae8584caa, 1},
		{sqrt, "3", three, 0, 0x3ffbb67ae8584cab, 1},
		{sqrt, "0124", belowOne, 0, belowOne, 1},
		{sqrt, "3", belowOne, 0, one, 1},
		{sqrt, "013", belowOne - 1, 0, belowOne, 1},
		{sqrt, "24", belowOne - 1, 0, belowOne - 1, 1},
		{sqrt, "0124", nextToOne, 0, one, 1},
		{sqrt, "3", nextToOne, 0, nextToOne, 1},
		{sqrt, "013", nextToOne + 1, 0, nextToOne, 1},
		{sqrt, "24", nextToOne + 1, 0, one, 1},
		{sqrt, allModes, least, 0, 0x1e60000000000000, 0},
		{sqrt, "013", 2, 0, 0x1e66a09e667f3bcd, 1},
		{sqrt, "24", 2, 0, 0x1e66a09e667f3bcc, 1},
		{sqrt, allModes, 4, 0, 0x1e70000000000000, 0},
		{sqrt, "013", greatestSub, 0, 0x1fffffffffffffff, 1},
		{sqrt, "24", greatestSub, 0, 0x1ffffffffffffffe, 1},
		{sqrt, allModes, leastNormal, 0, 0x2000000000000000, 0},
		{sqrt, "0124", leastNormal + 1, 0, 0x2000000000000000, 1},
		{sqrt, "3", leastNormal + 1, 0, 0x2000000000000001, 1},
		{sqrt, allModes, 0x7fd0000000000000, 0, 0x5fe0000000000000, 0},
		{sqrt, "013", 0x7fe0000000000000, 0, 0x5fe6a09e667f3bcd, 1},
		{sqrt, "24", 0x7fe0000000000000, 0, 0x5fe6a09e667f3bcc, 1},
		{sqrt, "0124", greatest, 0, 0x5fefffffffffffff, 1},
		{sqrt, "3", greatest, 0, 0x5ff0000000000000, 1},
	})
}

// P3, rule 6 of rsqrt.
func TestInverseRoot(t *testing.T) {
	check(t, []row{
		{rsqrt, allModes, one, 0, one, 0},
		{rsqrt, allModes, four, 0, half, 0},
		{rsqrt, allModes, 0x3fd0000000000000, 0, two, 0},
		{rsqrt, "013", two, 0, 0x3fe6a09e667f3bcd, 1},
		{rsqrt, "24", two, 0, 0x3fe6a09e667f3bcc, 1},
		{rsqrt, "0124", three, 0, 0x3fe279a74590331c, 1},
		{rsqrt, "3", three, 0, 0x3fe279a74590331d, 1},
		{rsqrt, "0124", belowOne, 0, one, 1},
		{rsqrt, "3", belowOne, 0, nextToOne, 1},
		{rsqrt, "013", belowOne - 1, 0, nextToOne, 1},
		{rsqrt, "24", belowOne - 1, 0, one, 1},
		{rsqrt, "0124", nextToOne, 0, belowOne, 1},
		{rsqrt, "3", nextToOne, 0, one, 1},
		{rsqrt, allModes, least, 0, 0x6180000000000000, 0},
		{rsqrt, "013", 2, 0, 0x6176a09e667f3bcd, 1},
		{rsqrt, "24", 2, 0, 0x6176a09e667f3bcc, 1},
		{rsqrt, allModes, 4, 0, 0x6170000000000000, 0},
		{rsqrt, "013", greatestSub, 0, 0x5fe0000000000001, 1},
		{rsqrt, "24", greatestSub, 0, 0x5fe0000000000000, 1},
		{rsqrt, allModes, leastNormal, 0, 0x5fe0000000000000, 0},
		{rsqrt, "0124", leastNormal + 1, 0, 0x5fdfffffffffffff, 1},
		{rsqrt, "3", leastNormal + 1, 0, 0x5fe0000000000000, 1},
		{rsqrt, allModes, 0x7fd0000000000000, 0, 0x2000000000000000, 0},
		{rsqrt, "013", 0x7fe0000000000000, 0, 0x1ff6a09e667f3bcd, 1},
		{rsqrt, "24", 0x7fe0000000000000, 0, 0x1ff6a09e667f3bcc, 1},
		{rsqrt, "0124", greatest, 0, 0x1ff0000000000000, 1},
		{rsqrt, "3", greatest, 0, 0x1ff0000000000001, 1},
	})
}

// opposites are the rows for -a, whose result is below 0 as well: up and down are then in each other's place.
func opposites(rows []row) []row {
	var out []row
	for _, w := range rows {
		modes := []byte(w.modes)
		for i, m := range modes {
			switch m {
			case '3':
				modes[i] = '4'
			case '4':
				modes[i] = '3'
			}
		}
		out = append(out, row{w.op, string(modes), minus | w.a, w.b, minus | w.bits, w.flags})
	}
	return out
}

// P3, rule 6 of cbrt, on both sides of 0.
func TestCubeRoot(t *testing.T) {
	rows := []row{
		{cbrt, allModes, one, 0, one, 0},
		{cbrt, allModes, eight, 0, two, 0},
		{cbrt, allModes, 0x3fc0000000000000, 0, half, 0},
		{cbrt, allModes, 0x403b000000000000, 0, three, 0},
		{cbrt, "013", two, 0, 0x3ff428a2f98d728b, 1},
		{cbrt, "24", two, 0, 0x3ff428a2f98d728a, 1},
		{cbrt, "0124", three, 0, 0x3ff7137449123ef6, 1},
		{cbrt, "3", three, 0, 0x3ff7137449123ef7, 1},
		{cbrt, "013", four, 0, 0x3ff965fea53d6e3d, 1},
		{cbrt, "24", four, 0, 0x3ff965fea53d6e3c, 1},
		{cbrt, "013", belowOne, 0, one, 1},
		{cbrt, "24", belowOne, 0, belowOne, 1},
		{cbrt, "0124", belowOne - 1, 0, belowOne, 1},
		{cbrt, "3", belowOne - 1, 0, one, 1},
		{cbrt, "0124", nextToOne, 0, one, 1},
		{cbrt, "3", nextToOne, 0, nextToOne, 1},
		{cbrt, "013", nextToOne + 1, 0, nextToOne, 1},
		{cbrt, "24", nextToOne + 1, 0, one, 1},
		{cbrt, allModes, least, 0, 0x2990000000000000, 0},
		{cbrt, "013", 2, 0, 0x299428a2f98d728b, 1},
		{cbrt, "24", 2, 0, 0x299428a2f98d728a, 1},
		{cbrt, allModes, 8, 0, 0x29a0000000000000, 0},
		{cbrt, "0124", greatestSub, 0, 0x2aa428a2f98d728a, 1},
		{cbrt, "3", greatestSub, 0, 0x2aa428a2f98d728b, 1},
		{cbrt, "013", leastNormal, 0, 0x2aa428a2f98d728b, 1},
		{cbrt, "24", leastNormal, 0, 0x2aa428a2f98d728a, 1},
		{cbrt, "013", 0x7fd0000000000000, 0, 0x553965fea53d6e3d, 1},
		{cbrt, "24", 0x7fd0000000000000, 0, 0x553965fea53d6e3c, 1},
		{cbrt, allModes, 0x7fe0000000000000, 0, 0x5540000000000000, 0},
		{cbrt, "013", greatest, 0, 0x554428a2f98d728b, 1},
		{cbrt, "24", greatest, 0, 0x554428a2f98d728a, 1},
	}
	check(t, rows)
	check(t, opposites(rows))
}
