package soft_test

import "testing"

// P3, rule 1 of div, beside what TestNaN holds: a NaN goes ahead of what is else invalid, or a division by zero.
func TestQuotientNaN(t *testing.T) {
	check(t, []row{
		{div, allModes, quiet, 0, quiet, 0},
		{div, allModes, 0, quiet, quiet, 0},
		{div, allModes, infinite, minus | quiet, minus | quiet, 0},
		{div, allModes, signalling, 0, signalling | 1<<51, 16},
	})
}

// P3, rules 2 to 5 of div.
func TestQuotientSpecial(t *testing.T) {
	var rows []row
	for _, signs := range [][2]uint64{{0, 0}, {0, minus}, {minus, 0}, {minus, minus}} {
		first, second := signs[0], signs[1]
		both := first ^ second
		rows = append(rows,
			row{div, allModes, first, second, plainNaN, 16},
			row{div, allModes, first | infinite, second | infinite, plainNaN, 16},
			row{div, allModes, first | infinite, second, both | infinite, 0},
			row{div, allModes, first, second | infinite, both, 0},
		)
		for _, x := range []uint64{least, greatestSub, leastNormal, one, three, greatest} {
			rows = append(rows,
				row{div, allModes, first | infinite, second | x, both | infinite, 0},
				row{div, allModes, first | x, second | infinite, both, 0},
				row{div, allModes, first | x, second, both | infinite, 8},
				row{div, allModes, first, second | x, both, 0},
			)
		}
	}
	check(t, rows)
}

// P3, rule 6 of div: exact and not. (Where no digit is lost below the least normal, no quotient falls on a half.)
func TestQuotient(t *testing.T) {
	const six = 0x4018000000000000
	check(t, []row{
		{div, allModes, one, two, half, 0},
		{div, allModes, one, minus | two, minus | half, 0},
		{div, allModes, minus | six, minus | three, two, 0},
		{div, allModes, nextToOne, nextToOne, one, 0},
		{div, allModes, greatest, minus | greatest, minus | one, 0},
		{div, allModes, least, least, one, 0},
		{div, allModes, 6, 3, two, 0},
		{div, "0124", one, three, 0x3fd5555555555555, 1},
		{div, "3", one, three, 0x3fd5555555555556, 1},
		{div, "0123", minus | one, three, minus | 0x3fd5555555555555, 1},
		{div, "4", one, minus | three, minus | 0x3fd5555555555556, 1},
		{div, "013", five, three, 0x3ffaaaaaaaaaaaab, 1},
		{div, "24", five, three, 0x3ffaaaaaaaaaaaaa, 1},
		{div, "014", five, minus | three, minus | 0x3ffaaaaaaaaaaaab, 1},
		{div, "23", minus | five, three, minus | 0x3ffaaaaaaaaaaaaa, 1},
		{div, "013", one, belowOne, nextToOne, 1},
		{div, "24", one, belowOne, one, 1},
		{div, "0124", one, nextToOne, belowOne - 1, 1},
		{div, "3", one, nextToOne, belowOne, 1},
	})
}

// P3, rule 6 of div: above the greatest finite number, and beside it.
func TestQuotientOverflow(t *testing.T) {
	check(t, []row{
		{div, "013", greatest, half, infinite, 5},
		{div, "24", greatest, half, greatest, 5},
		{div, "014", minus | greatest, half, minus | infinite, 5},
		{div, "23", greatest, minus | half, minus | greatest, 5},
		{div, "013", one, least, infinite, 5},
		{div, "24", greatest, least, greatest, 5},
		// 2^1024, and a little less than 2^1024 - 2^971
		{div, "013", greatest, belowOne, infinite, 5},
		{div, "24", greatest, belowOne, greatest, 5},
		{div, "013", greatest - 1, belowOne, greatest, 1},
		{div, "24", greatest - 1, belowOne, greatest - 1, 1},
		{div, allModes, greatest, one, greatest, 0},
	})
}

// P3, rule 6 of div: subnormal results, the halves among them.
func TestQuotientSubnormal(t *testing.T) {
	check(t, []row{
		{div, allModes, leastNormal, two, 0x0008000000000000, 0},
		{div, allModes, one, 0x7fe0000000000000, 0x0008000000000000, 0},
		{div, allModes, 3, half, 6, 0},
		{div, allModes, greatestSub, half, 0x001ffffffffffffe, 0},
		{div, "0124", one, greatest, 0x0004000000000000, 3},
		{div, "3", one, greatest, 0x0004000000000001, 3},
		{div, "024", least, two, 0, 3},
		{div, "13", least, two, least, 3},
		{div, "013", 3, two, 2, 3},
		{div, "24", 3, two, 1, 3},
		{div, "014", 3, minus | two, minus | 2, 3},
		{div, "23", minus | 3, two, minus | 1, 3},
		{div, "024", 5, two, 2, 3},
		{div, "13", 5, two, 3, 3},
		{div, "024", leastNormal + 1, two, 0x0008000000000000, 3},
		{div, "13", leastNormal + 1, two, 0x0008000000000001, 3},
		{div, "0124", 3, two + 1, 1, 3}, // a little less than a half
		{div, "3", 3, two + 1, 2, 3},
		{div, "013", 3, two - 1, 2, 3}, // a little more
		{div, "24", 3, two - 1, 1, 3},
		{div, "0124", least, three, 0, 3},
		{div, "3", least, three, least, 3},
		{div, "013", 2, three, least, 3},
		{div, "24", 2, three, 0, 3},
		{div, "0124", least, greatest, 0, 3},
		{div, "3", least, greatest, least, 3},
		{div, "0123", least, minus | greatest, minus, 3},
		{div, "4", minus | least, greatest, minus | least, 3},
	})
}

// P3, rule 6 of div: a quotient that rounds up to the least normal has 53 digits below it, so it is tiny.
func TestQuotientLeastNormal(t *testing.T) {
	check(t, []row{
		{div, "0124", leastNormal, nextToOne, greatestSub, 3},
		{div, "3", leastNormal, nextToOne, leastNormal, 3},
		{div, "013", 0x001fffffffffffff, two, leastNormal, 3},
		{div, "24", 0x001fffffffffffff, two, greatestSub, 3},
		{div, "0124", 0x001ffffffffffffe, two - 1, greatestSub, 3},
		{div, "3", 0x001ffffffffffffe, two - 1, leastNormal, 3},
		{div, "014", minus | 0x001fffffffffffff, two, minus | leastNormal, 3},
		{div, "23", 0x001fffffffffffff, minus | two, minus | greatestSub, 3},
		{div, allModes, leastNormal + 1, nextToOne, leastNormal, 0},
		{div, "013", leastNormal, belowOne, leastNormal + 1, 1},
		{div, "24", leastNormal, belowOne, leastNormal, 1},
	})
}
