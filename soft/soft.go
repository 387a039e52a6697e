// Package soft: floating point by whole numbers: see DOC.md.
package soft

// Record is an operation on numbers of IEEE 754's format binary64, by their bits.
type Record struct {
	Op, Mode byte
	A, B, C  uint64
}

// Result of a record.
type Result struct {
	Bits  uint64
	Flags uint8
	Bad   bool
}

// Class tells what kind of number the bits are (P2).
func Class(bits uint64) int {
	if signOf(bits) == 1 {
		return kindOf(bits) + belowZero
	}
	return kindOf(bits)
}

// Do answers a record (P3).
func Do(r Record) Result {
	if r.Op < codeAdd || r.Op > codeClear || r.Mode > down {
		return Result{Bad: true}
	}
	op := operations()[r.Op]
	operands := [3]uint64{r.A, r.B, r.C}
	out, found := firstNaN(operands[:op.operands])
	if found && (out.Flags == invalid || op.despite == nil || !op.despite(r)) {
		return out
	}
	return op.reckon(r)
}
