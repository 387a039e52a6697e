package soft_test

import (
	"testing"

	"softfloat/soft"
)

// Operands by name.
const (
	minus       = uint64(1) << 63
	one         = 0x3ff0000000000000
	nextToOne   = 0x3ff0000000000001
	belowOne    = 0x3fefffffffffffff
	two         = 0x4000000000000000
	three       = 0x4008000000000000
	four        = 0x4010000000000000
	five        = 0x4014000000000000
	eight       = 0x4020000000000000
	half        = 0x3fe0000000000000
	tiny        = 0x3ca0000000000000 // 2^-53
	least       = 0x0000000000000001
	greatestSub = 0x000fffffffffffff
	leastNormal = 0x0010000000000000
	greatest    = 0x7fefffffffffffff
	infinite    = 0x7ff0000000000000
	plainNaN    = 0x7ff8000000000000
	quiet       = 0x7ff8000000000123
	signalling  = 0x7ff0000000000001
)

const (
	add = iota + 1
	sub
	mul
	div
	fma
	sqrt
	rsqrt
	cbrt
	hypot
	clearing
)

// row holds in each of the modes that it lists by their digits.
type row struct {
	op    byte
	modes string
	a, b  uint64
	bits  uint64
	flags uint8
}

const allModes = "01234"

func expect(t *testing.T, r soft.Record, want soft.Result) {
	t.Helper()
	if got := soft.Do(r); got != want {
		t.Errorf("P3: code %d, mode %d, %#x %#x %#x: %#x, flags %d, bad %v; want %#x, flags %d, bad %v", r.Op, r.Mode, r.A, r.B, r.C, got.Bits, got.Flags, got.Bad, want.Bits, want.Flags, want.Bad)
	}
}

func check(t *testing.T, rows []row) {
	t.Helper()
	for _, w := range rows {
		for _, m := range []byte(w.modes) {
			expect(t, soft.Record{Op: w.op, Mode: m - '0', A: w.a, B: w.b}, soft.Result{Bits: w.bits, Flags: w.flags})
		}
	}
}

// P2.
func TestClass(t *testing.T) {
	for want, l := range [][]uint64{
		{0},
		{least, 2, 0x0008000000000000, greatestSub},
		{leastNormal, leastNormal + 1, tiny, one, three, greatest},
		{infinite},
		{plainNaN, quiet, 0x7fffffffffffffff},
		{signalling, 0x7ff4000000000000, 0x7ff7ffffffffffff},
	} {
		for _, bits := range l {
			if got := soft.Class(bits); got != want {
				t.Errorf("P2: Class(%#x) = %d, want %d", bits, got, want)
			}
			if got := soft.Class(minus | bits); got != want+8 {
				t.Errorf("P2: Class(%#x) = %d, want %d", minus|bits, got, want+8)
			}
		}
	}
}

// P3: what is Bad, and of every code that is not, that it isn't.
func TestBad(t *testing.T) {
	for op := range 256 {
		for mode := range 256 {
			r := soft.Record{Op: byte(op), Mode: byte(mode), A: one, B: signalling, C: infinite}
			if op < 1 || op > 10 || mode > 4 {
				expect(t, r, soft.Result{Bad: true})
			} else if soft.Do(r).Bad {
				t.Errorf("P3: code %d, mode %d: Bad", op, mode)
			}
		}
	}
}

// P3: clear answers zeros, whatever its operands.
func TestClear(t *testing.T) {
	for _, x := range []uint64{0, one, minus | infinite, quiet, signalling} {
		for mode := range byte(5) {
			expect(t, soft.Record{Op: clearing, Mode: mode, A: x, B: x, C: x}, soft.Result{})
		}
	}
}

// P3: the rows of section 'Examples'.
func TestExamples(t *testing.T) {
	check(t, []row{
		{add, allModes, one, two, three, 0},
		{add, "0", one, tiny, one, 1},
		{add, "13", one, tiny, nextToOne, 1},
		{add, "24", one, tiny, one, 1},
		{sub, "0123", one, one, 0, 0},
		{sub, "4", one, one, minus, 0},
		{add, "013", greatest, greatest, infinite, 5},
		{add, "24", greatest, greatest, greatest, 5},
		{mul, "0", leastNormal, belowOne, leastNormal, 3},
		{div, allModes, one, 0, infinite, 8},
		{div, allModes, 0, 0, plainNaN, 16},
		{add, allModes, signalling, one, 0x7ff8000000000001, 16},
		{sqrt, "0", two, 0, 0x3ff6a09e667f3bcd, 1},
		{rsqrt, allModes, four, 0, half, 0},
		{cbrt, allModes, minus | eight, 0, minus | two, 0},
		{hypot, allModes, three, minus | four, five, 0},
		{hypot, allModes, infinite, quiet, infinite, 0},
	})
	for mode := range byte(5) {
		expect(t, soft.Record{Op: fma, Mode: mode, A: nextToOne, B: belowOne, C: minus | one}, soft.Result{Bits: 0x3c9ffffffffffffe})
	}
}

// P3, rule 1, of two operands.
func TestNaN(t *testing.T) {
	for _, op := range []byte{add, sub, mul, div, hypot} {
		check(t, []row{
			{op, allModes, quiet, one, quiet, 0},
			{op, allModes, one, quiet, quiet, 0},
			{op, allModes, one, minus | quiet, minus | quiet, 0},
			{op, allModes, 0, quiet, quiet, 0},
			{op, allModes, quiet, minus | plainNaN, quiet, 0},
			{op, allModes, signalling, infinite, signalling | 1<<51, 16},
			{op, allModes, 0, minus | signalling, minus | signalling | 1<<51, 16},
			{op, allModes, signalling, quiet, signalling | 1<<51, 16},
			{op, allModes, quiet, signalling, quiet, 16},
			{op, allModes, signalling | 2, minus | signalling, signalling | 2 | 1<<51, 16},
		})
	}
	for _, op := range []byte{add, sub, mul, div} {
		check(t, []row{
			{op, allModes, infinite, quiet, quiet, 0},
			{op, allModes, quiet, minus | infinite, quiet, 0},
		})
	}
}

// P3: operands that stand in no formula do not matter.
func TestOtherOperands(t *testing.T) {
	for _, x := range []uint64{three, minus, infinite, quiet, signalling} {
		for op, want := range map[byte]uint64{add: five, sub: minus | one, mul: 0x4018000000000000} {
			expect(t, soft.Record{Op: op, A: two, B: three, C: x}, soft.Result{Bits: want})
		}
		expect(t, soft.Record{Op: div, A: one, B: two, C: x}, soft.Result{Bits: half})
		expect(t, soft.Record{Op: hypot, A: three, B: four, C: x}, soft.Result{Bits: five})
		expect(t, soft.Record{Op: sqrt, A: four, B: x, C: x}, soft.Result{Bits: two})
		expect(t, soft.Record{Op: rsqrt, A: four, B: x, C: x}, soft.Result{Bits: half})
		expect(t, soft.Record{Op: cbrt, A: eight, B: x, C: x}, soft.Result{Bits: two})
	}
}

// P3, rules 2 and 3 of add, sub and mul.
func TestInfinities(t *testing.T) {
	rows := []row{
		{add, allModes, infinite, minus | infinite, plainNaN, 16},
		{add, allModes, minus | infinite, infinite, plainNaN, 16},
		{sub, allModes, infinite, infinite, plainNaN, 16},
		{sub, allModes, minus | infinite, minus | infinite, plainNaN, 16},
		{mul, allModes, 0, infinite, plainNaN, 16},
		{mul, allModes, minus | infinite, 0, plainNaN, 16},
		{mul, allModes, minus, minus | infinite, plainNaN, 16},
		{add, allModes, infinite, infinite, infinite, 0},
		{add, allModes, minus | infinite, minus | infinite, minus | infinite, 0},
		{sub, allModes, infinite, minus | infinite, infinite, 0},
		{sub, allModes, minus | infinite, infinite, minus | infinite, 0},
		{mul, allModes, minus | infinite, minus | infinite, infinite, 0},
		{mul, allModes, minus | infinite, infinite, minus | infinite, 0},
	}
	for _, x := range []uint64{least, greatestSub, leastNormal, one, greatest, minus | one} {
		rows = append(rows,
			row{add, allModes, infinite, x, infinite, 0},
			row{add, allModes, x, minus | infinite, minus | infinite, 0},
			row{sub, allModes, minus | infinite, x, minus | infinite, 0},
			row{sub, allModes, x, infinite, minus | infinite, 0},
			row{mul, allModes, infinite, x, infinite ^ x&minus, 0},
			row{mul, allModes, x, minus | infinite, infinite ^ x&minus ^ minus, 0},
		)
	}
	check(t, rows)
}

// P3, rule 5 of add, sub and mul.
func TestZeros(t *testing.T) {
	check(t, []row{
		{add, allModes, 0, 0, 0, 0},
		{add, allModes, minus, minus, minus, 0},
		{sub, allModes, 0, minus, 0, 0},
		{sub, allModes, minus, 0, minus, 0},
		{add, "0123", 0, minus, 0, 0},
		{add, "4", 0, minus, minus, 0},
		{add, "0123", minus, 0, 0, 0},
		{add, "4", minus, 0, minus, 0},
		{sub, "0123", minus, minus, 0, 0},
		{sub, "4", 0, 0, minus, 0},
		{add, "0123", minus | least, least, 0, 0},
		{add, "4", greatest, minus | greatest, minus, 0},
		{sub, "0123", minus | three, minus | three, 0, 0},
		{sub, "4", minus | three, minus | three, minus, 0},
		{add, allModes, minus, least, least, 0},
		{sub, allModes, 0, greatest, minus | greatest, 0},
		{mul, allModes, 0, three, 0, 0},
		{mul, allModes, minus, three, minus, 0},
		{mul, allModes, minus | greatest, 0, minus, 0},
		{mul, allModes, minus | least, minus, 0, 0},
		{mul, allModes, minus, minus, 0, 0},
		{mul, allModes, 0, minus, minus, 0},
	})
}

// P3, rule 6: above the greatest finite number, and beside it.
func TestOverflow(t *testing.T) {
	const halfUnit = 0x7c90000000000000 // 2^970, half of the greatest number's last digit
	check(t, []row{
		{sub, "014", minus | greatest, greatest, minus | infinite, 5},
		{sub, "23", minus | greatest, greatest, minus | greatest, 5},
		{mul, "013", greatest, two, infinite, 5},
		{mul, "24", greatest, two, greatest, 5},
		{mul, "014", greatest, minus | greatest, minus | infinite, 5},
		{mul, "23", greatest, minus | greatest, minus | greatest, 5},
		{add, "013", greatest, halfUnit, infinite, 5},
		{add, "24", greatest, halfUnit, greatest, 1},
		{add, "0124", greatest, halfUnit - 1, greatest, 1},
		{add, "3", greatest, halfUnit - 1, infinite, 5},
		{add, "0124", greatest, least, greatest, 1},
		{add, "3", greatest, least, infinite, 5},
		{sub, "0123", minus | greatest, least, minus | greatest, 1},
		{sub, "4", minus | greatest, least, minus | infinite, 5},
		{mul, allModes, greatest, minus | one, minus | greatest, 0},
	})
}

// P3, rule 6: below the least normal, and beside it.
func TestUnderflow(t *testing.T) {
	check(t, []row{
		{mul, "0124", least, least, 0, 3},
		{mul, "3", least, least, least, 3},
		{mul, "0123", least, minus | least, minus, 3},
		{mul, "4", least, minus | least, minus | least, 3},
		{mul, "024", least, half, 0, 3},
		{mul, "13", least, half, least, 3},
		{mul, "013", 3, half, 2, 3},
		{mul, "24", 3, half, 1, 3},
		{mul, "014", 3, minus | half, minus | 2, 3},
		{mul, "23", 3, minus | half, minus | 1, 3},
		{mul, allModes, 2, half, least, 0},
		{mul, allModes, leastNormal, half, 0x0008000000000000, 0},
		{mul, allModes, greatestSub, two, 0x001ffffffffffffe, 0},
		{mul, "013", leastNormal, belowOne, leastNormal, 3},
		{mul, "24", leastNormal, belowOne, greatestSub, 3},
		// 2^-1022 * (1 - 2^-104): to 53 digits it is the least normal, where it is not rounded down.
		{mul, "013", leastNormal + 1, belowOne - 1, leastNormal, 1},
		{mul, "24", leastNormal + 1, belowOne - 1, greatestSub, 3},
		{add, allModes, greatestSub, least, leastNormal, 0},
		{sub, allModes, leastNormal, least, greatestSub, 0},
		{sub, allModes, least, 3, minus | 2, 0},
	})
}

// P3, rule 6: a far smaller part is seen, on each side of a power of 2.
func TestFarApart(t *testing.T) {
	check(t, []row{
		{add, "0124", one, least, one, 1},
		{add, "3", one, least, nextToOne, 1},
		{sub, "013", one, least, one, 1},
		{sub, "24", one, least, belowOne, 1},
		{sub, "014", least, one, minus | one, 1},
		{sub, "23", least, one, minus | belowOne, 1},
		{add, "01", one, tiny + 1, nextToOne, 1},
		{add, "01", one, tiny - 1, one, 1},
		{add, "0", nextToOne, tiny, nextToOne + 1, 1},
		{sub, allModes, one, tiny, belowOne, 0},
	})
}
