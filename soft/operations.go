package soft

// The codes of the operations.
const (
	codeAdd = iota + 1
	codeSub
	codeMul
	codeDiv
	codeFma
	codeSqrt
	codeRsqrt
	codeCbrt
	codeHypot
	codeClear
)

// The flags.
const (
	inexact = uint8(1) << iota
	underflow
	overflow
	divisionByZero
	invalid
)

// operation is how many operands matter, from the first on, what is reckoned with them where none is a NaN, and where that is the answer despite a quiet NaN (nil: nowhere).
type operation struct {
	operands int
	reckon   func(Record) Result
	despite  func(Record) bool
}

// operations by their codes.
func operations() [codeClear + 1]operation {
	return [...]operation{
		codeAdd:   {2, sum, nil},
		codeSub:   {2, difference, nil},
		codeMul:   {2, product, nil},
		codeDiv:   {2, quotient, nil},
		codeFma:   {3, fused, zeroTimesInfinity},
		codeSqrt:  {1, squareRoot, nil},
		codeRsqrt: {1, inverseRoot, nil},
		codeCbrt:  {1, cubeRoot, nil},
		codeHypot: {2, hypotenuse, anInfinity},
		codeClear: {0, zeros, nil},
	}
}

// zeros is what clear answers.
func zeros(Record) Result { return Result{} }

// wrong is the answer where no number is one.
func wrong() Result { return Result{Bits: plainNaN, Flags: invalid} }

// firstNaN is the answer where an operand is a NaN, and whether one is: a signalling one raises its flag wherever it stands.
func firstNaN(operands []uint64) (Result, bool) {
	var out Result
	found := false
	for _, bits := range operands {
		kind := kindOf(bits)
		if kind == signallingNaN {
			out.Flags = invalid
		}
		if kind >= quietNaN && !found {
			out.Bits = bits | quietBit
			found = true
		}
	}
	return out, found
}
