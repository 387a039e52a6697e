package soft

import "softfloat/wide"

// The modes.
const (
	nearestEven = iota
	nearestAway
	towardZero
	up
	down
)

// When the digits that are kept grow by one.
const (
	never = iota
	ifOdd
	always
)

// growth by mode, by sign, and by what was cut off (nothing, below half, half, above half).
var growth = [5][2][4]uint8{
	nearestEven: {{never, never, ifOdd, always}, {never, never, ifOdd, always}},
	nearestAway: {{never, never, always, always}, {never, never, always, always}},
	towardZero:  {{never, never, never, never}, {never, never, never, never}},
	up:          {{never, always, always, always}, {never, never, never, never}},
	down:        {{never, never, never, never}, {never, always, always, always}},
}

// round is the result for a number that is not 0.
func round[W wide.Words](x exact[W], mode byte) Result {
	unit := x.power + wide.Length(x.digits) - (fractionBits + 1)
	kept, changed := roundTo(x, unit, mode)
	if kept == hidden<<1 {
		kept = hidden
		unit++
	}
	if unit > greatestPower {
		return tooGreat(x.sign, mode)
	}
	raised := inexact
	if unit < leastPower {
		unit = leastPower
		kept, changed = roundTo(x, unit, mode)
		raised = inexact | underflow
	}
	// The hidden digit, added, counts the exponent one up: so a normal and a subnormal that has grown to one need no cases.
	out := Result{Bits: signed(x.sign, uint64(unit-leastPower)<<fractionBits+kept)}
	if changed {
		out.Flags = raised
	}
	return out
}

// roundTo is how many units of 2^unit x is, rounded, and whether that changed it.
func roundTo[W wide.Words](x exact[W], unit int, mode byte) (uint64, bool) {
	if unit <= x.power {
		return wide.Left(x.digits, uint(x.power-unit))[0], false
	}
	whole, rest := wide.Cut(x.digits, uint(unit-x.power))
	kept := whole[0]
	switch growth[mode][x.sign][rest] {
	case ifOdd:
		if kept&1 == 0 {
			break
		}
		fallthrough
	case always:
		kept++
	}
	return kept, rest != wide.Nothing
}

// tooGreat is the result of an overflow: it goes to infinity in the modes in which nearly a whole unit is rounded up.
func tooGreat(sign uint64, mode byte) Result {
	out := Result{Bits: signed(sign, greatestBits), Flags: overflow | inexact}
	if growth[mode][sign][wide.AboveHalf] == always {
		out.Bits = signed(sign, infinityBits)
	}
	return out
}
