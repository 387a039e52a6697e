package soft_test

import (
	"testing"

	"softfloat/soft"
)

// fusedRow holds of a * b + c in each of the modes that it lists by their digits.
type fusedRow struct {
	modes   string
	a, b, c uint64
	bits    uint64
	flags   uint8
}

// checkFused holds each row as it is, and with a and b in each other's place if one of them is no NaN: of two, the first is told.
func checkFused(t *testing.T, rows []fusedRow) {
	t.Helper()
	for _, w := range rows {
		for _, m := range []byte(w.modes) {
			r := soft.Record{Op: fma, Mode: m - '0', A: w.a, B: w.b, C: w.c}
			want := soft.Result{Bits: w.bits, Flags: w.flags}
			expect(t, r, want)
			if soft.Class(w.a)&7 < 4 || soft.Class(w.b)&7 < 4 {
				r.A, r.B = r.B, r.A
				expect(t, r, want)
			}
		}
	}
}

// P3, rule 1 of fma.
func TestFusedNaN(t *testing.T) {
	const quietBit = 1 << 51
	checkFused(t, []fusedRow{
		{allModes, quiet, one, one, quiet, 0},
		{allModes, one, two, minus | quiet, minus | quiet, 0},
		{allModes, quiet + 1, quiet + 2, quiet + 3, quiet + 1, 0},
		{allModes, quiet + 1, one, quiet + 3, quiet + 1, 0},
		{allModes, minus | quiet, quiet, one, minus | quiet, 0},
		{allModes, signalling, one, one, signalling | quietBit, 16},
		{allModes, one, two, minus | signalling, minus | signalling | quietBit, 16},
		{allModes, signalling, quiet, quiet, signalling | quietBit, 16},
		{allModes, quiet, signalling, one, quiet, 16},
		{allModes, quiet, one, signalling, quiet, 16},
		{allModes, quiet, quiet + 1, signalling, quiet, 16},
		{allModes, signalling + 1, signalling + 2, signalling + 3, signalling + 1 | quietBit, 16},
		{allModes, infinite, one, quiet, quiet, 0},
		{allModes, infinite, minus | infinite, quiet, quiet, 0},
		{allModes, 0, one, quiet, quiet, 0},
		{allModes, 0, minus, quiet, quiet, 0},
		{allModes, quiet, infinite, minus | infinite, quiet, 0},
		{allModes, quiet, infinite, 0, quiet, 0},
		{allModes, quiet, 0, infinite, quiet, 0},
		// zero * infinity beside a NaN: the plain NaN, but where it signals
		{allModes, 0, infinite, quiet, plainNaN, 16},
		{allModes, minus, infinite, minus | quiet, plainNaN, 16},
		{allModes, minus | infinite, 0, minus | plainNaN, plainNaN, 16},
		{allModes, minus | infinite, minus, quiet, plainNaN, 16},
		{allModes, 0, infinite, signalling, signalling | quietBit, 16},
		{allModes, minus | infinite, 0, minus | signalling, minus | signalling | quietBit, 16},
	})
}

// P3, rules 2 and 3 of fma.
func TestFusedInfinities(t *testing.T) {
	const negative = minus | infinite
	checkFused(t, []fusedRow{
		{allModes, 0, infinite, one, plainNaN, 16},
		{allModes, infinite, 0, infinite, plainNaN, 16},
		{allModes, minus, infinite, 0, plainNaN, 16},
		{allModes, negative, minus, negative, plainNaN, 16},
		{allModes, infinite, one, negative, plainNaN, 16},
		{allModes, minus | one, infinite, infinite, plainNaN, 16},
		{allModes, negative, minus | least, negative, plainNaN, 16},
		{allModes, infinite, infinite, negative, plainNaN, 16},
		{allModes, negative, infinite, infinite, plainNaN, 16},
		{allModes, infinite, one, infinite, infinite, 0},
		{allModes, negative, one, negative, negative, 0},
		{allModes, negative, infinite, negative, negative, 0},
		{allModes, infinite, least, one, infinite, 0},
		{allModes, infinite, minus | three, greatest, negative, 0},
		{allModes, negative, minus | greatestSub, minus | greatest, infinite, 0},
		{allModes, negative, minus | one, minus, infinite, 0},
		{allModes, infinite, negative, 0, negative, 0},
		{allModes, one, two, infinite, infinite, 0},
		{allModes, greatest, greatest, negative, negative, 0},
		{allModes, minus | greatest, greatest, infinite, infinite, 0},
		{allModes, least, minus | least, infinite, infinite, 0},
		{allModes, 0, minus | one, negative, negative, 0},
	})
}

// P3, rule 5 of fma: parts that are zeros, and parts that cancel.
func TestFusedZeros(t *testing.T) {
	checkFused(t, []fusedRow{
		{allModes, 0, one, 0, 0, 0},
		{allModes, minus, minus | greatest, 0, 0, 0},
		{allModes, minus, minus, 0, 0, 0},
		{allModes, minus, three, minus, minus, 0},
		{allModes, 0, minus | least, minus, minus, 0},
		{allModes, 0, minus, minus, minus, 0},
		{"0123", 0, one, minus, 0, 0},
		{"4", 0, one, minus, minus, 0},
		{"0123", minus, greatest, 0, 0, 0},
		{"4", minus, greatest, 0, minus, 0},
		{"0123", minus, minus, minus, 0, 0},
		{"4", minus, minus, minus, minus, 0},
		{"0123", one, one, minus | one, 0, 0},
		{"4", one, one, minus | one, minus, 0},
		{"0123", minus | three, half, 0x3ff8000000000000, 0, 0},
		{"4", minus | three, half, 0x3ff8000000000000, minus, 0},
		{"0123", least, minus | one, least, 0, 0},
		{"4", least, one, minus | least, minus, 0},
		{"0123", greatest, minus | one, greatest, 0, 0},
		{"4", greatest, one, minus | greatest, minus, 0},
	})
	for _, c := range []uint64{least, greatestSub, leastNormal, nextToOne, greatest} {
		checkFused(t, []fusedRow{
			{allModes, 0, greatest, c, c, 0},
			{allModes, minus, least, c, c, 0},
			{allModes, 0, minus, minus | c, minus | c, 0},
			{allModes, one, c, 0, c, 0},
			{allModes, minus | one, c, 0, minus | c, 0},
			{allModes, one, c, minus, c, 0},
		})
	}
	// a product that is rounded to a zero is none
	checkFused(t, []fusedRow{
		{"0124", least, least, minus, 0, 3},
		{"3", least, least, minus, least, 3},
		{"0123", minus | least, least, 0, minus, 3},
		{"4", minus | least, least, 0, minus | least, 3},
	})
}

// P3, rule 6 of fma: exact, not, and on a half; rounded once.
func TestFused(t *testing.T) {
	checkFused(t, []fusedRow{
		{allModes, nextToOne, belowOne, minus | one, 0x3c9ffffffffffffe, 0},
		{allModes, two, three, one, 0x401c000000000000, 0},
		{allModes, minus | two, three, one, minus | 0x4014000000000000, 0},
		{"024", one, one, tiny, one, 1},
		{"13", one, one, tiny, nextToOne, 1},
		{"024", tiny, one, one, one, 1},
		{"13", tiny, one, one, nextToOne, 1},
		{"023", minus | tiny, one, minus | one, minus | one, 1},
		{"14", minus | tiny, one, minus | one, minus | nextToOne, 1},
		{"013", nextToOne, one, tiny, nextToOne + 1, 1},
		{"24", nextToOne, one, tiny, nextToOne, 1},
		{"013", tiny, nextToOne, one, nextToOne, 1},
		{"24", tiny, nextToOne, one, one, 1},
		{"0124", tiny, belowOne, one, one, 1},
		{"3", tiny, belowOne, one, nextToOne, 1},
		// 1 + 2^-51 + 2^-53 + 2^-104: the last part alone tells that it lies above the half
		{"013", nextToOne, nextToOne, tiny, nextToOne + 2, 1},
		{"24", nextToOne, nextToOne, tiny, nextToOne + 1, 1},
	})
}

// P3, rule 6 of fma: parts far apart, on both sides.
func TestFusedFarApart(t *testing.T) {
	checkFused(t, []fusedRow{
		{"0124", one, one, least, one, 1},
		{"3", one, one, least, nextToOne, 1},
		{"013", one, one, minus | least, one, 1},
		{"24", one, one, minus | least, belowOne, 1},
		{"0124", least, least, one, one, 1},
		{"3", least, least, one, nextToOne, 1},
		{"013", minus | least, least, one, one, 1},
		{"24", minus | least, least, one, belowOne, 1},
		{"014", least, least, minus | one, minus | one, 1},
		{"23", least, least, minus | one, minus | belowOne, 1},
		{"0124", least, least, greatest, greatest, 1},
		{"3", least, least, greatest, infinite, 5},
		{"013", minus | least, least, greatest, greatest, 1},
		{"24", minus | least, least, greatest, greatest - 1, 1},
		{"0124", least, least, least, least, 3},
		{"3", least, least, least, 2, 3},
		{"013", minus | least, least, least, least, 3},
		{"24", minus | least, least, least, 0, 3},
		{"014", least, least, minus | least, minus | least, 3},
		{"23", least, least, minus | least, minus, 3},
	})
}

// P3, rule 6 of fma: parts that nearly cancel.
func TestFusedNearlyCancel(t *testing.T) {
	const third = 0x3fd5555555555555
	checkFused(t, []fusedRow{
		{allModes, nextToOne, nextToOne, minus | (nextToOne + 1), 0x3970000000000000, 0},
		{allModes, belowOne, belowOne, minus | (belowOne - 1), 0x3950000000000000, 0},
		{allModes, third, three, minus | one, minus | 0x3c90000000000000, 0},
		{allModes, third, minus | three, one, 0x3c90000000000000, 0},
		{allModes, leastNormal, nextToOne, minus | leastNormal, least, 0},
		{allModes, greatest, belowOne, minus | (greatest - 1), 0x7950000000000000, 0},
		// 2^-1075 * (1 - 2^-52), a little less than half of the least number
		{"0124", leastNormal + 1, belowOne, minus | leastNormal, 0, 3},
		{"3", leastNormal + 1, belowOne, minus | leastNormal, least, 3},
		{"0123", minus | (leastNormal + 1), belowOne, leastNormal, minus, 3},
		{"4", minus | (leastNormal + 1), belowOne, leastNormal, minus | least, 3},
		// a half of the least number, to which they come exactly
		{"024", 3, half, minus | least, 0, 3},
		{"13", 3, half, minus | least, least, 3},
	})
}

// P3, rule 6 of fma: above the greatest finite number, and beside it.
func TestFusedOverflow(t *testing.T) {
	const halfUnit = 0x7c90000000000000 // 2^970, half of the greatest number's last digit
	checkFused(t, []fusedRow{
		{"013", greatest, greatest, minus | greatest, infinite, 5},
		{"24", greatest, greatest, minus | greatest, greatest, 5},
		{"014", greatest, minus | greatest, greatest, minus | infinite, 5},
		{"23", greatest, minus | greatest, greatest, minus | greatest, 5},
		{"013", greatest, one, halfUnit, infinite, 5},
		{"24", greatest, one, halfUnit, greatest, 1},
		{"0124", greatest, one, halfUnit - 1, greatest, 1},
		{"3", greatest, one, halfUnit - 1, infinite, 5},
		{"014", greatest, minus | one, minus | halfUnit, minus | infinite, 5},
		{"23", greatest, minus | one, minus | halfUnit, minus | greatest, 1},
		// the product alone would overflow
		{allModes, greatest, two, minus | greatest, greatest, 0},
		{"013", greatest, two, minus | (greatest - 1), infinite, 5},
		{"24", greatest, two, minus | (greatest - 1), greatest, 5},
	})
}

// P3, rule 6 of fma: subnormal results, and those that round up to the least normal.
func TestFusedSubnormal(t *testing.T) {
	const quarter, threeEighths = 0x3fd0000000000000, 0x3fd8000000000000
	checkFused(t, []fusedRow{
		{allModes, leastNormal, half, least, 0x0008000000000001, 0},
		{allModes, greatestSub, one, least, leastNormal, 0},
		{"024", 3, half, least, 2, 3},
		{"13", 3, half, least, 3, 3},
		{"014", minus | 3, half, minus | 2, minus | 4, 3},
		{"23", minus | 3, half, minus | 2, minus | 3, 3},
		// less than the least normal by half a unit: with 53 digits below it
		{"013", minus | half, least, leastNormal, leastNormal, 3},
		{"24", minus | half, least, leastNormal, greatestSub, 3},
		// by 3/8 of a unit: to 53 digits it is below the least normal, but in mode 3
		{"01", minus | threeEighths, least, leastNormal, leastNormal, 3},
		{"3", minus | threeEighths, least, leastNormal, leastNormal, 1},
		{"24", minus | threeEighths, least, leastNormal, greatestSub, 3},
		{"01", threeEighths, least, minus | leastNormal, minus | leastNormal, 3},
		{"4", threeEighths, least, minus | leastNormal, minus | leastNormal, 1},
		{"23", threeEighths, least, minus | leastNormal, minus | greatestSub, 3},
		// by a quarter: on the half of 53 digits
		{"013", minus | quarter, least, leastNormal, leastNormal, 1},
		{"24", minus | quarter, least, leastNormal, greatestSub, 3},
		// by far less
		{"013", minus | least, least, leastNormal, leastNormal, 1},
		{"24", minus | least, least, leastNormal, greatestSub, 3},
		{"0124", least, least, leastNormal, leastNormal, 1},
		{"3", least, least, leastNormal, leastNormal + 1, 1},
	})
}
